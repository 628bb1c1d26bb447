/- The document's answer: words, names. -/
import Derived.Test.YtmipbiligijcpaaGreatDoorG
namespace Go.Proofs.YtmipbiligijcpaaGreatDoor
set_option linter.unusedVariables false
set_option linter.unusedSimpArgs false
open Go.RowKit Go.Proofs Go.Maps

theorem infoStr : (Tryz.prog.info? 9).map (fun i => (i.zero, i.size, i.bytes)) = some (some (.string ⟨#[]⟩), 1, 16) := by kernel_rfl
theorem extract_sub (s : ByteArray) (a b : Nat) : (s.extract a b).data.toList = Wm.sub s.data.toList a b := by
  rw [Lib.extract_data]
  simp [Wm.sub, List.take_drop]
theorem map_data_inj : ∀ {a b : List ByteArray}, a.map (·.data.toList) = b.map (·.data.toList) → a = b
  | [], [], _ => rfl
  | [], _ :: _, h => by simp at h
  | _ :: _, [], h => by simp at h
  | x :: a, y :: b, h => by
    simp only [List.map_cons, List.cons.injEq] at h
    rw [data_inj h.1, map_data_inj h.2]
theorem cutW_blank (cur r : List UInt8) (c : UInt8) (h : Wm.blk c = true) : Wm.cutW cur (c :: r) = (if cur = [] then [] else [cur]) ++ Wm.cutW [] r := by
  rw [Wm.cutW, h]
  simp only [if_true]
  split <;> simp
theorem blk_int (c : UInt8) : Wm.blk c = (((c.toNat : Int) == 32) || ((c.toNat : Int) == 9) || ((c.toNat : Int) == 13)) := by
  unfold Wm.blk
  rw [Bool.eq_iff_iff]; simp; omega
theorem drop_cons (s : ByteArray) (k : Nat) (h : k < s.size) : s.data.toList.drop k = s[k] :: s.data.toList.drop (k + 1) := by
  rw [List.drop_eq_getElem_cons (by rw [Wm.len_data]; exact h)]; rfl
theorem sub_one (s : ByteArray) (k : Nat) (h : k < s.size) : Wm.sub s.data.toList k (k + 1) = [s[k]] := by
  unfold Wm.sub; rw [drop_cons s k h]; simp

def Inv (s : ByteArray) (k fr : Nat) (acc : List ByteArray) : Prop :=
  if k ≤ s.size then acc.map (·.data.toList) ++ Wm.cutW (Wm.sub s.data.toList fr k) (s.data.toList.drop k) = Wm.cutW [] s.data.toList else acc.map (·.data.toList) = Wm.cutW [] s.data.toList
theorem inv_sep (s : ByteArray) (k fr : Nat) (acc : List ByteArray) (hk : k ≤ s.size) (hf : fr ≤ k) (hsep : ∀ h : k < s.size, Wm.blk s[k] = true) (h : Inv s k fr acc) : Inv s (k + 1) (k + 1) (if fr < k then acc ++ [s.extract fr k] else acc) := by
  have hln := Wm.len_data s
  unfold Inv at h ⊢
  rw [if_pos hk] at h
  have hsub : (if Wm.sub s.data.toList fr k = [] then ([] : List (List UInt8)) else [Wm.sub s.data.toList fr k]) = (if fr < k then [(s.extract fr k).data.toList] else []) := by
    by_cases hlt : fr < k
    · rw [if_pos hlt, if_neg (Wm.sub_ne _ _ _ hlt (by omega)), extract_sub]
    · obtain rfl : fr = k := by omega
      rw [if_neg hlt, Wm.sub_self, if_pos rfl]
  have hacc : (if fr < k then acc ++ [s.extract fr k] else acc).map (·.data.toList) = acc.map (·.data.toList) ++ (if fr < k then [(s.extract fr k).data.toList] else []) := by
    split <;> simp
  by_cases hlt : k < s.size
  · rw [if_pos (by omega), hacc, Wm.sub_self]
    rw [drop_cons s k hlt, cutW_blank _ _ _ (hsep hlt), hsub] at h
    rw [List.append_assoc]
    exact h
  · obtain rfl : k = s.size := by omega
    rw [if_neg (by omega), hacc]
    rw [show s.data.toList.drop s.size = [] from List.drop_eq_nil_of_le (by omega), Wm.cutW, hsub] at h
    exact h
theorem inv_non (s : ByteArray) (k fr : Nat) (acc : List ByteArray) (hk : k < s.size) (hf : fr ≤ k) (hb : Wm.blk s[k] = false) (h : Inv s k fr acc) : Inv s (k + 1) fr acc := by
  have hln := Wm.len_data s
  unfold Inv at h ⊢
  rw [if_pos (by omega)] at h
  rw [if_pos (by omega)]
  rw [drop_cons s k hk, Wm.cutW, hb] at h
  simp only [Bool.false_eq_true, if_false] at h
  rw [Wm.sub_grow s.data.toList fr k (k + 1) hf (by omega), sub_one s k hk]
  exact h
set_option maxHeartbeats 2000000 in
set_option maxRecDepth 100000 in
theorem rwords_any (s : ByteArray) (w : World) (hs : s.size ≤ 3000) :
    Calls Tryz.prog 67 #[.string s] w fun e w' => ∃ v, e = .returned v ∧ w'.ownsRow w.heap.size 9 1 v (wds s).length ((wds s).map Value.string) ∧ Below w.heap.size w w' := by
  obtain ⟨i0, hi, hz0, hz1, hz2⟩ := info_parts infoStr
  have HI : Hid (Tryz.prog.info? 9 = some i0 ∧ i0.zero = some (.string ⟨#[]⟩) ∧ i0.size = 1 ∧ i0.bytes = 16) := ⟨hi, hz0, hz1, hz2⟩
  clear hi hz0 hz1 hz2
  have hln := Wm.len_data s
  go_enter Tryz.func67, Tryz.ntmps67
  go_wp2
  go_loopw [3, 4, 5] (fun v f i wr => ∃ (k fr : Nat) (acc : List ByteArray), k ≤ s.size + 1 ∧ fr ≤ k ∧ i = .int .i64 k ∧ f = .int .i64 fr ∧ Hid (Inv s k fr acc) ∧ acc.length ≤ k ∧ wr.ownsRow w.heap.size 9 1 v acc.length (acc.map Value.string) ∧ Below w.heap.size w wr) (fun _ _ i _ => s.size + 1 - (intOf i).toNat)
  case atStart => exact ⟨0, 0, [], by omega, by omega, rfl, rfl, by show Inv _ _ _ _; simp [Inv, Wm.sub], by simp, World.ownsRow_nil _ _ _ _, Below.refl _ _⟩
  case round =>
    obtain ⟨k, fr, acc, hk, hfr, rfl, rfl, HA, hal, hown, hb⟩ := hrel
    have hbz := hb.size
    by_cases hle : k ≤ s.size
    · have hlei : (k : Int) ≤ (s.size : Int) := by omega
      by_cases hend : k = s.size
      · have HS : Hid (Inv s (k + 1) (k + 1) (if fr < k then acc ++ [s.extract fr k] else acc)) := inv_sep s k fr acc hle hfr (fun h => by omega) HA.out
        clear HA
        have hei : ((k : Int) == (s.size : Int)) = true := by rw [beq_iff_eq]; omega
        clear hend
        by_cases hfk : fr < k
        · have HS2 : Hid (Inv s (k + 1) (k + 1) (acc ++ [s.extract fr k])) := by have := HS.out; rw [if_pos hfk] at this; exact this
          have hfi : (fr : Int) < (k : Int) := by omega
          have hfl : (fr : Int) ≤ (k : Int) := by omega
          go_wp2_with (at_builtin; refine wpList_append_own _ rfl (.tmp 37) (.tmp 42) 101 rfl w.heap.size 9 i0 (.string ⟨#[]⟩) 1 16 Tryz.underlying101 HI.out.1 HI.out.2.1 HI.out.2.2.1 HI.out.2.2.2 rfl (by decide) _ _ _ rfl (hown.alloc _) ⟨wr.heap.size, 0, none⟩ 1 1 [.string (s.extract fr k)] rfl rfl (cell_one _ _ _) (by intro u hu; simp at hu; subst hu; rfl) (by unfold maxLen; omega) (by omega) (by simp; omega) ?_; intro v4 W4 hown4 hgrow4 hnil4)
          all_goals
            go_roundw
            case rel =>
              refine ⟨k + 1, k + 1, acc ++ [s.extract fr k], by omega, by omega, by go_num, by go_num, HS2.out, by simp; omega, ?_, (hb.alloc hbz _).grown hgrow4 (by simp; omega) (fun q hq => (hown.lt q hq).1)⟩
              rw [List.length_append, List.map_append]
              exact hown4
            case measure => simp [intOf]; omega
        · have HS2 : Hid (Inv s (k + 1) (k + 1) acc) := by have := HS.out; rw [if_neg hfk] at this; exact this
          have hfi : ¬ (fr : Int) < (k : Int) := by omega
          go_wp2
          all_goals
            go_roundw
            case rel => exact ⟨k + 1, k + 1, acc, by omega, by omega, by go_num, by go_num, HS2.out, by omega, hown, hb⟩
            case measure => simp [intOf]; omega
      · have hlt : k < s.size := by omega
        have hei : ((k : Int) == (s.size : Int)) = false := by rw [beq_eq_false_iff_ne]; omega
        have hbi := blk_int s[k]
        cases hbk : Wm.blk s[k] with
        | false =>
          have HS : Hid (Inv s (k + 1) fr acc) := inv_non s k fr acc hlt hfr hbk HA.out
          clear HA
          rw [hbk] at hbi
          have hb3 := hbi.symm
          simp only [Bool.or_eq_false_iff] at hb3
          obtain ⟨⟨b1, b2⟩, b3⟩ := hb3
          clear hbi
          go_wp2
          go_roundw
          case rel => exact ⟨k + 1, fr, acc, by omega, by omega, by go_num, rfl, HS.out, by omega, hown, hb⟩
          case measure => simp [intOf]; omega
        | true =>
        have HS : Hid (Inv s (k + 1) (k + 1) (if fr < k then acc ++ [s.extract fr k] else acc)) := inv_sep s k fr acc hle hfr (fun h => hbk) HA.out
        clear HA
        rw [hbk] at hbi
        have hb3 : Hid ((((s[k].toNat : Int) == 32) || ((s[k].toNat : Int) == 9) || ((s[k].toNat : Int) == 13)) = true) := hbi.symm
        clear hbi hbk
        cases b1 : ((s[k].toNat : Int) == 32) <;> cases b2 : ((s[k].toNat : Int) == 9) <;> cases b3 : ((s[k].toNat : Int) == 13) <;> (have hb4 := hb3.out; rw [b1, b2, b3] at hb4; clear hb3)
        all_goals first | (exfalso; simp at hb4; done) | skip
        all_goals clear hb4
        all_goals
          by_cases hfk : fr < k
          · have HS2 : Hid (Inv s (k + 1) (k + 1) (acc ++ [s.extract fr k])) := by have := HS.out; rw [if_pos hfk] at this; exact this
            have hfi : (fr : Int) < (k : Int) := by omega
            have hfl : (fr : Int) ≤ (k : Int) := by omega
            go_wp2_with (at_builtin; refine wpList_append_own _ rfl (.tmp 37) (.tmp 42) 101 rfl w.heap.size 9 i0 (.string ⟨#[]⟩) 1 16 Tryz.underlying101 HI.out.1 HI.out.2.1 HI.out.2.2.1 HI.out.2.2.2 rfl (by decide) _ _ _ rfl (hown.alloc _) ⟨wr.heap.size, 0, none⟩ 1 1 [.string (s.extract fr k)] rfl rfl (cell_one _ _ _) (by intro u hu; simp at hu; subst hu; rfl) (by unfold maxLen; omega) (by omega) (by simp; omega) ?_; intro v4 W4 hown4 hgrow4 hnil4)
            all_goals
              go_roundw
              case rel =>
                refine ⟨k + 1, k + 1, acc ++ [s.extract fr k], by omega, by omega, by go_num, by go_num, HS2.out, by simp; omega, ?_, (hb.alloc hbz _).grown hgrow4 (by simp; omega) (fun q hq => (hown.lt q hq).1)⟩
                rw [List.length_append, List.map_append]
                exact hown4
              case measure => simp [intOf]; omega
          · have HS2 : Hid (Inv s (k + 1) (k + 1) acc) := by have := HS.out; rw [if_neg hfk] at this; exact this
            have hfi : ¬ (fr : Int) < (k : Int) := by omega
            go_wp2
            all_goals
              go_roundw
              case rel => exact ⟨k + 1, k + 1, acc, by omega, by omega, by go_num, by go_num, HS2.out, by omega, hown, hb⟩
              case measure => simp [intOf]; omega
    · obtain rfl : k = s.size + 1 := by omega
      have hgt : ¬ ((s.size + 1 : Nat) : Int) ≤ (s.size : Int) := by omega
      go_wp2
      go_ret
      have e := HA.out
      unfold Inv at e
      rw [if_neg (by omega)] at e
      have : acc = wds s := map_data_inj (e.trans (wds_eq s).symm)
      subst this
      exact ⟨_, rfl, hown, hb⟩
end Go.Proofs.YtmipbiligijcpaaGreatDoor
