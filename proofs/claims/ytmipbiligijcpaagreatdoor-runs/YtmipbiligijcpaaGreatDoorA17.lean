/- A part of the proof: contracts of functions of the program. -/
import Derived.Test.YtmipbiligijcpaaGreatDoorA16
namespace Go.Proofs.YtmipbiligijcpaaGreatDoor
set_option linter.unusedVariables false
set_option linter.unusedSimpArgs false
open Go.RowKit Go.Proofs Go.Maps

theorem beq_comm_list (a b : List UInt8) : (a == b) = (b == a) := by
  rw [Bool.eq_iff_iff]; simp; exact eq_comm
set_option maxHeartbeats 2000000 in
set_option maxRecDepth 100000 in
theorem rv_any (s : ByteArray) (pb B : Nat) (nv xv : Value) (vs : List Nam) (vb : Option Nat) (w : World) (hn : vs.length < 20000) (hB : B ≤ w.heap.size) (hBp : pb < B) (hP : Rp w pb B nv xv vs vb) :
    Calls Tryz.prog 113 #[.pointer (some ⟨pb, 0, none⟩), .string s] w fun e w' => e = .returned (.int .i64 (vnum vs s.data.toList)) ∧ ∃ vb', Rp w' pb B nv xv (vadd vs s.data.toList) vb' ∧ RF pb vb w w' ∧ newer w vb vb' := by
  obtain ⟨vv, hbx, hown, hvb⟩ := hP.box
  have HVB : Hid (vv.ownBlock = vb) := hvb
  clear hvb
  obtain ⟨i0, hi, hz0, hz1, hz2⟩ := info_parts infoStr
  have HI : Hid (Tryz.prog.info? 9 = some i0 ∧ i0.zero = some (.string ⟨#[]⟩) ∧ i0.size = 1 ∧ i0.bytes = 16) := ⟨hi, hz0, hz1, hz2⟩
  clear hi hz0 hz1 hz2
  have hp := hP.lt
  have hnd := hP.nodup
  obtain ⟨ao, cap, rfl, hcell⟩ : ∃ ao cap, vv = .slice ao vs.length cap ∧ ∀ k x, vs[k]? = some x → ∃ g, ao = some ⟨g, 0, none⟩ ∧ w.cell? ⟨g, k, none⟩ = some (strOf x) := by
    rcases hown.2 with ⟨rfl, h0⟩ | ⟨g, cap, cur, rfl, h1, h2, h3, h4, h5, h6⟩
    · refine ⟨none, 0, by rw [h0], fun k x hx => ?_⟩
      have := (List.getElem?_eq_some_iff.1 hx).1
      omega
    · refine ⟨_, cap, rfl, fun k x hx => ⟨g, rfl, ?_⟩⟩
      have hk := (List.getElem?_eq_some_iff.1 hx).1
      have h7 : (cur.toList.take (vs.length * 1))[k]? = some (strOf x) := by rw [h6]; simp [hx]
      rw [List.getElem?_take, if_pos (by omega)] at h7
      simp [World.cell?, h2]
      simpa using h7
  obtain ⟨hx1, hx2⟩ := box_cells hbx
  go_enter Tryz.func113, Tryz.ntmps113
  go_wp2
  go_loop [5] (fun i => ∃ k : Nat, k ≤ vs.length ∧ i = .int .i64 k ∧ Hid (∀ j (h : j < vs.length), j < k → vs[j] ≠ s.data.toList)) (fun i => vs.length - (intOf i).toNat)
  case atStart => exact ⟨0, Nat.zero_le _, rfl, by show ∀ j h, _; intro j h hj; omega⟩
  case round =>
    obtain ⟨k, hk, rfl, HA⟩ := hrel
    by_cases hlt : k < vs.length
    · have hlti : (k : Int) < (vs.length : Int) := by omega
      obtain ⟨g, hao, hc⟩ := hcell k _ (List.getElem?_eq_getElem hlt)
      subst hao
      obtain ⟨x, hx⟩ : ∃ x, vs[k] = x := ⟨_, rfl⟩
      rw [hx] at hc
      have hst := str_eq s x
      unfold strOf at hc
      by_cases heq : x = s.data.toList
      · have hb1 : (x == s.toList) = true := by rw [ByteArray.toList_eq, heq]; simp
        have HV : Hid (vnum vs s.data.toList = k ∧ vadd vs s.data.toList = vs) := by
          have hm : s.data.toList ∈ vs := by rw [← heq, ← hx]; exact List.getElem_mem hlt
          refine ⟨?_, by simp [vadd, hm]⟩
          simp only [vnum, hm, if_true]
          rw [idx_of hnd hlt (hx.trans heq)]
        clear hst heq hx
        go_wp2
        go_ret
        refine ⟨by rw [HV.out.1]; rfl, vb, ?_, RF.refl _ _ _, Or.inl rfl⟩
        rw [HV.out.2]; exact hP
      · have hb1 : (x == s.toList) = false := by rw [ByteArray.toList_eq]; simpa using heq
        have HN : Hid (∀ j (h : j < vs.length), j < k + 1 → vs[j] ≠ s.data.toList) := by
          show ∀ j h, _
          intro j h hj
          by_cases e : j = k
          · subst e; rw [hx]; exact heq
          · exact HA.out j h (by omega)
        clear hst heq hx
        go_wp2
        go_round
        case rel => exact ⟨k + 1, by omega, by go_num, HN.out⟩
        case measure => simp [intOf]; omega
    · obtain rfl : k = vs.length := by omega
      have hm : s.data.toList ∉ vs := by
        intro h
        obtain ⟨j, hj, e⟩ := List.getElem_of_mem h
        exact HA.out j hj hj e
      have HV : Hid (vnum vs s.data.toList = vs.length ∧ vadd vs s.data.toList = vs ++ [s.data.toList]) := ⟨by simp [vnum, hm], by simp [vadd, hm]⟩
      have HM : Hid (s.data.toList ∉ vs) := hm
      clear hm HA
      go_wp2_with (at_builtin; go_must (refine wpList_append_own_at _ rfl (.tmp 29) (.tmp 31) 101 rfl B 9 i0 (.string ⟨#[]⟩) 1 16 Tryz.underlying101 HI.out.1 HI.out.2.1 HI.out.2.2.1 HI.out.2.2.2 rfl (by decide) _ _ _ rfl (hown.alloc _) ⟨w.heap.size, 0, none⟩ 1 1 [.string s] rfl rfl (cell_one _ _ _) (by intro u hu; simp at hu; subst hu; rfl) (by unfold maxLen; omega) (by omega) (by simp; omega) ?_))
      intro v4 W4 hown4 hgrow4 _ hloc4
      have hvb := HVB.out
      have hpne : some pb ≠ (Value.slice ao vs.length cap).ownBlock := by
        intro e
        have := (hown.lt pb e.symm).1
        omega
      have hb4 : W4.heap[pb]? = some (.cells #[nv, .slice ao vs.length cap, xv] 107 (0, 0)) := by
        rw [hgrow4.block pb (by simp; omega) hpne]
        exact (Below.heap_alloc _ _ _ hp).trans hbx
      obtain ⟨ao4, n4, cap4, rfl⟩ : ∃ ao n cap, v4 = .slice ao n cap := by
        rcases hown4.2 with ⟨hv, _⟩ | ⟨g, cap, cur, hv, _⟩
        · exact ⟨_, _, _, hv⟩
        · exact ⟨_, _, _, hv⟩
      have hn4 : n4 = vs.length + 1 := by
        rcases hown4.2 with ⟨hv, h0⟩ | ⟨g, cap, cur, hv, _⟩
        · omega
        · cases hv; rfl
      have HN4 : Hid (n4 = vs.length + 1) := hn4
      have i4 : (n4 : Int) - 1 = (vs.length : Int) := by omega
      have HI4 : Hid ((n4 : Int) - 1 = (vs.length : Int)) := i4
      have j4 : (n4 : Int) ≤ 20001 := by omega
      clear i4 hn4
      have HVB : Hid ((Value.slice ao vs.length cap).ownBlock = vb) := hvb
      clear hvb hx1 hx2
      obtain ⟨hx1, hx2⟩ := box_cells hb4
      go_wp2
      go_ret
      have hpne4 : some pb ≠ (Value.slice ao4 n4 cap4).ownBlock := by
        intro e
        have := (hown4.lt pb e.symm).1
        omega
      refine ⟨by rw [HV.out.1, ← HI4.out]; rfl, (Value.slice ao4 n4 cap4).ownBlock, ?_, ?_, ?_⟩
      · rw [HV.out.2]
        have hnod := vadd_nodup hnd s.data.toList
        rw [HV.out.2] at hnod
        refine ⟨⟨_, ?_, ?_, rfl⟩, hnod⟩
        · simp [World.setCell, Array.getElem?_modify, hb4]
        · have e : (vs ++ [s.data.toList]).map strOf = vs.map strOf ++ [.string s] := by simp [strOf]
          rw [List.length_append, e]
          refine ⟨hown4.1, ?_⟩
          rcases hown4.2 with h | ⟨g, cp, cur, hv, h1, h2, h3⟩
          · exact Or.inl h
          · refine Or.inr ⟨g, cp, cur, hv, h1, (Below.heap_setCell _ _ _ _ ?_).trans h2, h3⟩
            show g ≠ pb
            omega
      · refine ⟨hgrow4.os, hgrow4.tape, hgrow4.output, ?_, fun k hk h1 h2 => ?_⟩
        · have := hgrow4.size
          simp [World.setCell] at this ⊢
          omega
        · rw [Below.heap_setCell _ _ _ _ (show k ≠ pb from h1), hgrow4.block k (by simp; omega) (by rw [HVB.out]; exact h2)]
          exact Below.heap_alloc _ _ _ hk
      · rcases hloc4 with h | h
        · exact Or.inl (h.trans HVB.out)
        · exact Or.inr ⟨_, h, by simp⟩
end Go.Proofs.YtmipbiligijcpaaGreatDoor
namespace Go.Proofs.YtmipbiligijcpaaGreatDoor
set_option linter.unusedVariables false
set_option linter.unusedSimpArgs false
open Go.RowKit Go.Proofs Go.Maps

structure RO where
  var : Int
  c : Int
  word : ByteArray
def ro0 : RO := ⟨0, 0, emp⟩
def rop (vs : List Nam) (s : ByteArray) : RO := if cstB s.data.toList then ⟨-1, cstV s.data.toList, s⟩ else if Wm.nm s then ⟨vnum vs s.data.toList, 0, s⟩ else ro0
theorem nm_cst (s : ByteArray) (h : Wm.nm s = true) : cstB s.data.toList = false := by
  have h0 : 0 < s.size := by
    rcases Nat.eq_zero_or_pos s.size with e | e
    · rw [Wm.nm_none s e] at h; cases h
    · exact e
  have hl : Wm.letB s[0] = true := by
    cases e : Wm.letB s[0] with
    | true => rfl
    | false => rw [Wm.nm_head s h0 e] at h; cases h
  have hc := Wm.cons_data s h0
  have hb : 97 ≤ s[0].toNat := by simp [Wm.letB] at hl; exact hl.1
  have hne : s[0] ≠ 45 := by intro e; rw [e] at hb; exact absurd hb (by decide)
  have hn : Wm.numL s.data.toList = false := by
    unfold Wm.numL
    rw [hc, Wm.dg_pos _ _ hne]
    have hd : Wm.digB s[0] = false := by simp [Wm.digB]; omega
    simp [Wm.numD, hd]
  unfold cstB
  rw [cst_no hn]; rfl
theorem opdB_r (s : ByteArray) : opdB s = (cstB s.data.toList || Wm.nm s) := by unfold opdB; rw [Bool.or_comm]

set_option maxHeartbeats 1000000 in
set_option maxRecDepth 100000 in
theorem rop_any (s : ByteArray) (pb B : Nat) (nv xv : Value) (vs : List Nam) (vb : Option Nat) (w : World) (hs : s.size ≤ 3000) (hn : vs.length < 20000) (hB : B ≤ w.heap.size) (hBp : pb < B) (hP : Rp w pb B nv xv vs vb) :
    Calls Tryz.prog 179 #[.pointer (some ⟨pb, 0, none⟩), .string s] w fun e w' => ∃ (va co : Int) (wd : ByteArray) (vb' : Option Nat),
      e = .returned (.tuple #[.agg #[.int .i64 va, .int .i64 co, .string wd], .bool (opdB s)]) ∧ Hid (rop vs s = ⟨va, co, wd⟩) ∧ Rp w' pb B nv xv (opdA vs s) vb' ∧ RF pb vb w w' ∧ newer w vb vb' := by
  have hp := hP.lt
  have hvl := hP.vlt
  have hvne : some w.heap.size ≠ vb := by intro e; have := hvl _ e.symm; omega
  rw [opdB_r]
  cases hcb : cstB s.data.toList with
  | true =>
    have hnm : Wm.nm s = false := by cases e : Wm.nm s with | false => rfl | true => rw [nm_cst s e] at hcb; cases hcb
    have HA : Hid (opdA vs s = vs) := by show _ = _; simp [opdA, hnm]
    have HR : Hid (rop vs s = ⟨-1, cstV s.data.toList, s⟩) := by show _ = _; simp [rop, hcb]
    go_enter Tryz.func179, Tryz.ntmps179
    go_wp2_with (go_at_call 246; refine (rconst_any _ _ hs).mono ?_; rintro e w' ⟨rfl, rfl⟩)
    refine bodyPost_ret (v := .tuple #[.agg #[.int .i64 (-1), .int .i64 (cstV s.data.toList), .string s], .bool true]) (by simp [results, Tryz.results179, go_sem]) rfl ⟨_, _, _, vb, rfl, HR.out, ?_, RF.alloc _ _, Or.inl rfl⟩
    rw [HA.out]; exact hP.alloc _
  | false =>
    cases hnm : Wm.nm s with
    | false =>
      have HA : Hid (opdA vs s = vs) := by show _ = _; simp [opdA, hnm]
      have HR : Hid (rop vs s = ro0) := by show _ = _; simp [rop, hcb, hnm]
      go_enter Tryz.func179, Tryz.ntmps179
      go_wp2_with (first
        | (go_at_call 246; refine (rconst_any _ _ hs).mono ?_; rintro e w' ⟨rfl, rfl⟩)
        | (go_at_call 68; refine (rname_any _ _ hs).mono ?_; rintro e w' ⟨rfl, rfl⟩))
      refine bodyPost_ret (v := .tuple #[.agg #[.int .i64 0, .int .i64 0, .string ⟨#[]⟩], .bool false]) (by simp [results, Tryz.results179, go_sem]) rfl ⟨_, _, _, vb, rfl, HR.out, ?_, RF.alloc _ _, Or.inl rfl⟩
      rw [HA.out]; exact hP.alloc _
    | true =>
      have HA : Hid (opdA vs s = vadd vs s.data.toList) := by show _ = _; simp [opdA, hnm]
      have HR : Hid (rop vs s = ⟨vnum vs s.data.toList, 0, s⟩) := by show _ = _; simp [rop, hcb, hnm]
      go_enter Tryz.func179, Tryz.ntmps179
      go_wp2_with (first
        | (go_at_call 246; refine (rconst_any _ _ hs).mono ?_; rintro e w' ⟨rfl, rfl⟩)
        | (go_at_call 68; refine (rname_any _ _ hs).mono ?_; rintro e w' ⟨rfl, rfl⟩)
        | (go_at_call 113; refine (rv_any s pb B nv xv vs vb _ hn (by simp; omega) hBp (hP.alloc _)).mono ?_; rintro e W2 ⟨rfl, vb', hP2, hf2, hn2⟩; have hbx : W2.heap[w.heap.size]? = some _ := (hf2.block w.heap.size (by simp) (by omega) hvne).trans (heap_alloc_new w _); obtain ⟨hx1, hx2⟩ := box_cells hbx; have hz : w.heap.size < W2.heap.size := (Array.getElem?_eq_some_iff.1 hbx).1))
      have hne2 : some w.heap.size ≠ vb' := hn2.ne (by simp) hvne
      refine bodyPost_ret (v := .tuple #[.agg #[.int .i64 (vnum vs s.data.toList), .int .i64 0, .string s], .bool true]) (by simp [results, Tryz.results179, go_sem, hx1]) rfl ⟨_, _, _, vb', rfl, HR.out, ?_, ?_, ?_⟩
      · rw [HA.out]
        exact ((hP2.set (by simp; omega) (by simpa using hne2) _).set (by simp; omega) (by simpa using hne2) _).set (by simp; omega) (by simpa using hne2) _
      · exact ((hf2.of_alloc.set (Nat.le_refl _) _).set (Nat.le_refl _) _).set (Nat.le_refl _) _
      · rcases hn2 with h | ⟨q, h, hq⟩
        · exact Or.inl h
        · exact Or.inr ⟨q, h, by simp at hq; omega⟩
set_option maxHeartbeats 1000000 in
theorem among_nil (s : ByteArray) (w : World) :
    Calls Tryz.prog 180 #[.string s, .slice none 0 0] w fun e w' => e = .returned (.bool false) ∧ w' = w := by
  go_enter Tryz.func180, Tryz.ntmps180
  go_wp2
  go_loop [5] (fun i => i = .int .i64 0) (fun _ => 0)
  case atStart => rfl
  case round =>
    subst hrel
    go_wp2
    go_ret
    exact ⟨rfl, rfl⟩
theorem among_any (s : ByteArray) (g cap : Nat) (l : List ByteArray) (w : World) (hl : l.length ≤ 4) (hW : Ws w g 0 l) :
    Calls Tryz.prog 180 #[.string s, .slice (some ⟨g, 0, none⟩) l.length cap] w fun e w' => e = .returned (.bool (l.any (fun x => x.toList == s.toList))) ∧ w' = w := by
  go_enter Tryz.func180, Tryz.ntmps180
  go_wp2
  go_loop [5] (fun i => ∃ k : Nat, k ≤ l.length ∧ i = .int .i64 k ∧ Hid ((l.take k).any (fun x => x.toList == s.toList) = false)) (fun i => l.length - (intOf i).toNat)
  case atStart => exact ⟨0, Nat.zero_le _, rfl, by show _ = _; simp⟩
  case round =>
    obtain ⟨k, hk, rfl, HA⟩ := hrel
    by_cases hlt : k < l.length
    · have hlti : (k : Int) < (l.length : Int) := by omega
      obtain ⟨x, hx⟩ : ∃ x, l[k]? = some x := ⟨_, List.getElem?_eq_getElem hlt⟩
      have hc := hW.cell k x hx
      rw [Nat.zero_add] at hc
      cases hb : (x.toList == s.toList) with
      | true =>
        have HF : Hid (l.any (fun x => x.toList == s.toList) = true) := by
          show _ = _
          rw [List.any_eq_true]
          exact ⟨x, List.mem_of_getElem? hx, hb⟩
        clear HA
        go_wp2
        go_ret
        exact ⟨ret_bool HF.out.symm, rfl⟩
      | false =>
        have HF : Hid ((l.take (k + 1)).any (fun x => x.toList == s.toList) = false) := by
          show _ = _
          have hl := List.getElem?_eq_some_iff.1 hx
          rw [List.take_succ_eq_append_getElem hl.1, hl.2, List.any_append, HA.out]
          simp [hb]
        clear HA
        go_wp2
        go_round
        case rel => exact ⟨k + 1, by omega, by go_num, HF.out⟩
        case measure => simp [intOf]; omega
    · obtain rfl : k = l.length := by omega
      have e := HA.out
      rw [List.take_length] at e
      have HE : Hid (l.any (fun x => x.toList == s.toList) = false) := e
      clear e HA
      go_wp2
      go_ret
      exact ⟨ret_bool HE.out.symm, rfl⟩
end Go.Proofs.YtmipbiligijcpaaGreatDoor
