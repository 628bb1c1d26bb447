/- The document's answer: the number of a variable; an operand. -/
import Derived.Test.YtmipbiligijcpaaGreatDoorR6
namespace Go.Proofs.YtmipbiligijcpaaGreatDoor
set_option linter.unusedVariables false
set_option linter.unusedSimpArgs false
open Go.RowKit Go.Proofs Go.Maps

theorem beq_comm_list (a b : List UInt8) : (a == b) = (b == a) := by
  rw [Bool.eq_iff_iff]; simp; exact eq_comm
set_option maxHeartbeats 2000000 in
set_option maxRecDepth 100000 in
theorem rv_any (s : ByteArray) (pb B : Nat) (nv xv : Value) (vs : List Nam) (vb : Option Nat) (w : World) (hn : vs.length < 20000) (hB : B ≤ w.heap.size) (hBp : pb < B) (hP : Rp w pb B nv xv vs vb) :
    Calls Tryz.prog 113 #[.pointer (some ⟨pb, 0, none⟩), .string s] w fun e w' => e = .returned (.int .i64 (vnum vs s.data.toList)) ∧ ∃ vb', Rp w' pb B nv xv (vadd vs s.data.toList) vb' ∧ RF pb vb w w' ∧ newer w vb vb' := by
  obtain ⟨vv, hbx, hown, hvb⟩ := hP.box
  have HVB : Hid (vv.ownBlock = vb) := hvb
  clear hvb
  obtain ⟨i0, hi, hz0, hz1, hz2⟩ := info_parts infoStr
  have HI : Hid (Tryz.prog.info? 9 = some i0 ∧ i0.zero = some (.string ⟨#[]⟩) ∧ i0.size = 1 ∧ i0.bytes = 16) := ⟨hi, hz0, hz1, hz2⟩
  clear hi hz0 hz1 hz2
  have hp := hP.lt
  have hnd := hP.nodup
  obtain ⟨ao, cap, rfl, hcell⟩ : ∃ ao cap, vv = .slice ao vs.length cap ∧ ∀ k x, vs[k]? = some x → ∃ g, ao = some ⟨g, 0, none⟩ ∧ w.cell? ⟨g, k, none⟩ = some (strOf x) := by
    rcases hown.2 with ⟨rfl, h0⟩ | ⟨g, cap, cur, rfl, h1, h2, h3, h4, h5, h6⟩
    · refine ⟨none, 0, by rw [h0], fun k x hx => ?_⟩
      have := (List.getElem?_eq_some_iff.1 hx).1
      omega
    · refine ⟨_, cap, rfl, fun k x hx => ⟨g, rfl, ?_⟩⟩
      have hk := (List.getElem?_eq_some_iff.1 hx).1
      have h7 : (cur.toList.take (vs.length * 1))[k]? = some (strOf x) := by rw [h6]; simp [hx]
      rw [List.getElem?_take, if_pos (by omega)] at h7
      simp [World.cell?, h2]
      simpa using h7
  obtain ⟨hx1, hx2⟩ := box_cells hbx
  go_enter Tryz.func113, Tryz.ntmps113
  go_wp2
  go_loop [5] (fun i => ∃ k : Nat, k ≤ vs.length ∧ i = .int .i64 k ∧ Hid (∀ j (h : j < vs.length), j < k → vs[j] ≠ s.data.toList)) (fun i => vs.length - (intOf i).toNat)
  case atStart => exact ⟨0, Nat.zero_le _, rfl, by show ∀ j h, _; intro j h hj; omega⟩
  case round =>
    obtain ⟨k, hk, rfl, HA⟩ := hrel
    by_cases hlt : k < vs.length
    · have hlti : (k : Int) < (vs.length : Int) := by omega
      obtain ⟨g, hao, hc⟩ := hcell k _ (List.getElem?_eq_getElem hlt)
      subst hao
      obtain ⟨x, hx⟩ : ∃ x, vs[k] = x := ⟨_, rfl⟩
      rw [hx] at hc
      have hst := str_eq s x
      unfold strOf at hc
      by_cases heq : x = s.data.toList
      · have hb1 : (x == s.toList) = true := by rw [ByteArray.toList_eq, heq]; simp
        have HV : Hid (vnum vs s.data.toList = k ∧ vadd vs s.data.toList = vs) := by
          have hm : s.data.toList ∈ vs := by rw [← heq, ← hx]; exact List.getElem_mem hlt
          refine ⟨?_, by simp [vadd, hm]⟩
          simp only [vnum, hm, if_true]
          rw [idx_of hnd hlt (hx.trans heq)]
        clear hst heq hx
        go_wp2
        go_ret
        refine ⟨by rw [HV.out.1]; rfl, vb, ?_, RF.refl _ _ _, Or.inl rfl⟩
        rw [HV.out.2]; exact hP
      · have hb1 : (x == s.toList) = false := by rw [ByteArray.toList_eq]; simpa using heq
        have HN : Hid (∀ j (h : j < vs.length), j < k + 1 → vs[j] ≠ s.data.toList) := by
          show ∀ j h, _
          intro j h hj
          by_cases e : j = k
          · subst e; rw [hx]; exact heq
          · exact HA.out j h (by omega)
        clear hst heq hx
        go_wp2
        go_round
        case rel => exact ⟨k + 1, by omega, by go_num, HN.out⟩
        case measure => simp [intOf]; omega
    · obtain rfl : k = vs.length := by omega
      have hm : s.data.toList ∉ vs := by
        intro h
        obtain ⟨j, hj, e⟩ := List.getElem_of_mem h
        exact HA.out j hj hj e
      have HV : Hid (vnum vs s.data.toList = vs.length ∧ vadd vs s.data.toList = vs ++ [s.data.toList]) := ⟨by simp [vnum, hm], by simp [vadd, hm]⟩
      have HM : Hid (s.data.toList ∉ vs) := hm
      clear hm HA
      go_wp2_with (at_builtin; go_must (refine wpList_append_own_at _ rfl (.tmp 29) (.tmp 31) 101 rfl B 9 i0 (.string ⟨#[]⟩) 1 16 Tryz.underlying101 HI.out.1 HI.out.2.1 HI.out.2.2.1 HI.out.2.2.2 rfl (by decide) _ _ _ rfl (hown.alloc _) ⟨w.heap.size, 0, none⟩ 1 1 [.string s] rfl rfl (cell_one _ _ _) (by intro u hu; simp at hu; subst hu; rfl) (by unfold maxLen; omega) (by omega) (by simp; omega) ?_))
      intro v4 W4 hown4 hgrow4 _ hloc4
      have hvb := HVB.out
      have hpne : some pb ≠ (Value.slice ao vs.length cap).ownBlock := by
        intro e
        have := (hown.lt pb e.symm).1
        omega
      have hb4 : W4.heap[pb]? = some (.cells #[nv, .slice ao vs.length cap, xv] 107 (0, 0)) := by
        rw [hgrow4.block pb (by simp; omega) hpne]
        exact (Below.heap_alloc _ _ _ hp).trans hbx
      obtain ⟨ao4, n4, cap4, rfl⟩ : ∃ ao n cap, v4 = .slice ao n cap := by
        rcases hown4.2 with ⟨hv, _⟩ | ⟨g, cap, cur, hv, _⟩
        · exact ⟨_, _, _, hv⟩
        · exact ⟨_, _, _, hv⟩
      have hn4 : n4 = vs.length + 1 := by
        rcases hown4.2 with ⟨hv, h0⟩ | ⟨g, cap, cur, hv, _⟩
        · omega
        · cases hv; rfl
      have HN4 : Hid (n4 = vs.length + 1) := hn4
      have i4 : (n4 : Int) - 1 = (vs.length : Int) := by omega
      have HI4 : Hid ((n4 : Int) - 1 = (vs.length : Int)) := i4
      have j4 : (n4 : Int) ≤ 20001 := by omega
      clear i4 hn4
      have HVB : Hid ((Value.slice ao vs.length cap).ownBlock = vb) := hvb
      clear hvb hx1 hx2
      obtain ⟨hx1, hx2⟩ := box_cells hb4
      go_wp2
      go_ret
      have hpne4 : some pb ≠ (Value.slice ao4 n4 cap4).ownBlock := by
        intro e
        have := (hown4.lt pb e.symm).1
        omega
      refine ⟨by rw [HV.out.1, ← HI4.out]; rfl, (Value.slice ao4 n4 cap4).ownBlock, ?_, ?_, ?_⟩
      · rw [HV.out.2]
        have hnod := vadd_nodup hnd s.data.toList
        rw [HV.out.2] at hnod
        refine ⟨⟨_, ?_, ?_, rfl⟩, hnod⟩
        · simp [World.setCell, Array.getElem?_modify, hb4]
        · have e : (vs ++ [s.data.toList]).map strOf = vs.map strOf ++ [.string s] := by simp [strOf]
          rw [List.length_append, e]
          refine ⟨hown4.1, ?_⟩
          rcases hown4.2 with h | ⟨g, cp, cur, hv, h1, h2, h3⟩
          · exact Or.inl h
          · refine Or.inr ⟨g, cp, cur, hv, h1, (Below.heap_setCell _ _ _ _ ?_).trans h2, h3⟩
            show g ≠ pb
            omega
      · refine ⟨hgrow4.os, hgrow4.tape, hgrow4.output, ?_, fun k hk h1 h2 => ?_⟩
        · have := hgrow4.size
          simp [World.setCell] at this ⊢
          omega
        · rw [Below.heap_setCell _ _ _ _ (show k ≠ pb from h1), hgrow4.block k (by simp; omega) (by rw [HVB.out]; exact h2)]
          exact Below.heap_alloc _ _ _ hk
      · rcases hloc4 with h | h
        · exact Or.inl (h.trans HVB.out)
        · exact Or.inr ⟨_, h, by simp⟩
end Go.Proofs.YtmipbiligijcpaaGreatDoor
