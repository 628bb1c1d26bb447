/- A part of the proof: contracts of functions of the program. -/
import Derived.Test.YtmipbiligijcpaaGreatDoorA43
import Derived.Laws.CopyOwn
import Derived.Deep.Cut
namespace Go.Proofs.YtmipbiligijcpaaGreatDoor
set_option linter.unusedVariables false
set_option linter.unusedSimpArgs false
open Go.RowKit Go.Proofs Go.Maps

set_option maxHeartbeats 8000000 in
set_option maxRecDepth 100000 in
theorem ran_any (bb B : Nat) (wa ra ia : Option Addr) (wk rk ic : Nat) (T : List Trc) (s : ByteArray) (ins : List Int) (fuel : Int) (w : World) (hE : Env w) (hI : InL w w.heap.size (.slice ia ins.length ic) ins) (hW : BW w bb B (.slice wa T.length wk) (.slice ra T.length rk) T) (hT : T.length ≤ 10) (hn : (ins.length + 1) * 8 ≤ 140737488355328)
    (hD : ∀ (ins : List Int) (ia : Option Addr) (ic : Nat) (w : World), InL w w.heap.size (.slice ia ins.length ic) ins → Calls Tryz.prog 27 #[.string s, .slice ia ins.length ic, .int .i64 fuel] w (DocAns w (runR s ins fuel))) :
    Calls Tryz.prog 10 #[.pointer (some ⟨bb, 0, none⟩), .string s, .slice ia ins.length ic, .int .i64 fuel] w fun e W => e = .returned (.bool true) ∧ Below B w W ∧ ∃ wa' wc' ra' rc' T', T'.length = T.length + 1 ∧ BW W bb B (.slice wa' T'.length wc') (.slice ra' T'.length rc') T' := by
  obtain ⟨i1, hi, hz0, hz1, hz2⟩ := info_parts info64
  have HI : Hid (Tryz.prog.info? 2 = some i1 ∧ i1.zero = some (.int .i64 0) ∧ i1.size = 1 ∧ i1.bytes = 8) := ⟨hi, hz0, hz1, hz2⟩
  clear hi hz0 hz1 hz2
  obtain ⟨i3, hi, hz0, hz1, hz2⟩ := info_parts infoTr
  have HI3 : Hid (Tryz.prog.info? 57 = some i3 ∧ i3.zero = some (.agg #[.int .i64 0, .slice none 0 0, .slice none 0 0]) ∧ i3.size = 3 ∧ i3.bytes = 56) := ⟨hi, hz0, hz1, hz2⟩
  clear hi hz0 hz1 hz2
  have hw1 : wrap64 ((ins.length : Int) + 1) = (ins.length : Int) + 1 := by unfold wrap64; omega
  obtain ⟨⟨er, ⟨en, outs, st⟩, nv⟩, hR1⟩ : ∃ R, R = runR s ins fuel := ⟨_, rfl⟩
  obtain ⟨⟨er2, ⟨en2, outs2, st2⟩, nv2⟩, hR2⟩ : ∃ R, R = runR s (ins.map turnd) fuel := ⟨_, rfl⟩
  have HR1 := (show Hid _ from wRun_n s ins fuel ins.length er en outs st nv rfl hR1.symm)
  have HD1 := (show Hid _ from dRun_n s fuel hD ins ins.length er en outs st nv rfl hR1.symm)
  have HR2 := (show Hid _ from wRun_n s (ins.map turnd) fuel ins.length er2 en2 outs2 st2 nv2 (by simp) hR2.symm)
  have HD2 := (show Hid _ from dRun_n s fuel hD (ins.map turnd) ins.length er2 en2 outs2 st2 nv2 (by simp) hR2.symm)
  have HE1 : Hid ((er = 0 ∨ er = 1 ∨ er = 2 ∨ er = 9) ∧ (er2 = 0 ∨ er2 = 1 ∨ er2 = 2 ∨ er2 = 9)) := ⟨by have := (runR_small s ins fuel).2.2.2; rw [← hR1] at this; exact this, by have := (runR_small s (ins.map turnd) fuel).2.2.2; rw [← hR2] at this; exact this⟩
  have HW := (show Hid _ from hW)
  have HIn := (show Hid _ from hI)
  have HE := (show Hid _ from hE)
  have hbz := hW.lt
  have hbne : bb ≠ w.heap.size := by omega
  obtain ⟨cs, hcs⟩ : ∃ cs : List Value, cs = ins.map (Value.int .i64) := ⟨_, rfl⟩
  have HCS := (show Hid _ from hcs)
  clear hD hW hI hE hcs hR1 hR2
  go_enter Tryz.func10, Tryz.ntmps10
  go_upto_region 3 with (at_make; refine wpList_make_full _ rfl (.tmp 27) (.tmp 27) 23 rfl w.heap.size 2 i1 (.int .i64 0) 1 Tryz.underlying23 HI.out.1 HI.out.2.1 HI.out.2.2.1 .i64 .i64 (ins.length + 1) (ins.length + 1) (ins.length + 1) rfl rfl (by simp) (by simp) (by rw [HI.out.2.2.2]; omega) (by unfold maxLen; omega) (by simp) ?_; intro W2 hown2 hgrow2; have HM := (show Hid _ from ran_made hown2 hgrow2); clear hown2 hgrow2)
  have HC : Hid (cs.length = Nat.min ins.length (ins.length + 1) ∧ (0 < cs.length → some (⟨w.heap.size, 0, none⟩ : Addr) = some ⟨w.heap.size, 0, none⟩ ∧ ∃ ad, ia = some ad ∧ ∀ j v, cs[j]? = some v → W2.cell? (ad.add j) = some v) ∧ 0 + cs.length ≤ (List.replicate (ins.length + 1) (Value.int .i64 0)).length ∧ (∀ v ∈ cs, v.oneCell' = true)) := by
    have hcs := HCS.out
    clear HCS
    subst hcs
    refine ⟨by rw [List.length_map]; exact (Nat.min_eq_left (Nat.le_succ _)).symm, fun h => ⟨rfl, inl_copy (inl_up HIn.out HM.out.2) h⟩, by rw [List.length_map, List.length_replicate]; omega, fun v hv => ?_⟩
    obtain ⟨x, _, rfl⟩ := List.mem_map.1 hv
    rfl
  go_upto_region 5 with (refine wpList_copy_splice rfl (.tmp 29) (.tmp 30) 23 23 rfl 2 Tryz.underlying23 info64s (some ⟨w.heap.size, 0, none⟩) ia (ins.length + 1) (ins.length + 1) ins.length ic rfl rfl w.heap.size 0 (List.replicate (ins.length + 1) (.int .i64 0)) 2 HM.out.1 cs HC.out.1 HC.out.2.1 HC.out.2.2.1 HC.out.2.2.2 w.heap.size w HM.out.2 (Nat.le_refl _) ?_; intro W3 HG3 hb3; have h3 := HG3.out; rw [splice_all ins.length cs (by rw [HCS.out, List.length_map]), HCS.out] at h3; have hc3 : W3.cell? ⟨w.heap.size, ins.length, none⟩ = some (.int .i64 0) := (by (simp only [World.cell?, h3]; simp)); have hf3 : ∀ o, W3.frozen? ⟨w.heap.size, o, none⟩ = false := (fun o => by simp [World.frozen?, h3]); have H3 := (show Hid _ from And.intro h3 hb3); clear HG3 hb3 h3)
  have hO3 := own_of_splice H3.out.1
  have hB3 : Below w.heap.size w (W3.setCell ⟨w.heap.size, ins.length, none⟩ (.int .i64 (-77))) := H3.out.2.setCell (Nat.le_refl _) _
  have hml : ins.length + 1 ≤ maxLen := by unfold maxLen; omega
  obtain ⟨V, hV⟩ : ∃ V, V = W3.setCell ⟨w.heap.size, ins.length, none⟩ (.int .i64 (-77)) := ⟨_, rfl⟩
  rw [← hV]
  rw [← hV] at hO3 hB3
  have HV := (show Hid _ from And.intro hO3 (And.intro hB3 hml))
  clear hV hO3 hB3 hml hc3 hf3 H3 HC HM HCS
  go_upto_region 6 with (go_at_call 23; refine Calls.mono (HR1.out _ _ V (HE.out.up HV.out.2.1) (HV.out.1.inl HV.out.2.2)) ?_; rintro e W4 ⟨hb4, oa, oc, sa, sc, stl, rfl, ht4, hs4⟩; have H4 := (show Hid _ from And.intro hb4 (And.intro ht4 hs4)); clear hb4 ht4 hs4)
  obtain ⟨V4, hV⟩ : ∃ V4, V4 = W4.alloc (.cells #[.int .i64 en, .slice oa outs.length oc, .slice sa stl.length sc] 57) := ⟨_, rfl⟩
  rw [← hV]
  have hB4 : Below w.heap.size w V4 := by rw [hV]; exact (HV.out.2.1.trans (H4.out.1.mono HV.out.2.1.size)).alloc (Nat.le_trans HV.out.2.1.size H4.out.1.size) _
  have hK4 : Below W4.heap.size W4 V4 := by rw [hV]; exact (Below.refl _ _).alloc (Nat.le_refl _) _
  have hX4 : V4.heap[W4.heap.size]? = some (.cells #[.int .i64 en, .slice oa outs.length oc, .slice sa stl.length sc] 57 (0, 0)) := by rw [hV]; exact heap_alloc_new _ _
  have HV4 := (show Hid _ from And.intro hB4 (And.intro hK4 hX4))
  clear hV hB4 hK4 hX4
  go_upto_region 7 with (go_at_call 27; refine Calls.mono (HD1.out _ _ V4 (inl_up HIn.out HV4.out.1)) ?_; rintro e W5 ⟨hb5, ra1, rc1, rs1, rd1, rstl, rfl, q1, q2, q3, q4⟩; have H5 := (show Hid _ from And.intro hb5 (And.intro q1 (And.intro q2 (And.intro q3 q4)))); clear hb5 q1 q2 q3 q4)
  have hT5 : TOk W5 (w.heap.size + 1) ⟨en, oa, sa, ra1, rs1, oc, sc, rc1, rd1, outs, stl, rstl, V.heap.size, W4.heap.size⟩ := pair_tok H4.out.2.1 H4.out.2.2 (HV4.out.2.1.trans (H5.out.1.mono HV4.out.2.1.size)) H5.out.2.1 H5.out.2.2.1 H5.out.2.2.2.1 H5.out.2.2.2.2 HV.out.1.lt (Nat.lt_of_lt_of_le HV.out.1.lt (Nat.le_trans H4.out.1.size HV4.out.2.1.size))
  obtain ⟨V5, hV⟩ : ∃ V5, V5 = W5.alloc (.cells #[.int .i64 en, .slice ra1 outs.length rc1, .slice rs1 rstl.length rd1] 57) := ⟨_, rfl⟩
  rw [← hV]
  have hK5 : Below W5.heap.size W5 V5 := by rw [hV]; exact (Below.refl _ _).alloc (Nat.le_refl _) _
  have hB5 : Below w.heap.size w V5 := (HV4.out.1.trans (H5.out.1.mono HV4.out.1.size)).trans (hK5.mono (Nat.le_trans HV4.out.1.size H5.out.1.size))
  have hX5 : V5.heap[W4.heap.size]? = some (.cells #[.int .i64 en, .slice oa outs.length oc, .slice sa stl.length sc] 57 (0, 0)) := by
    have h4 := HV4.out.2.2
    have hl := (Array.getElem?_eq_some_iff.1 h4).1
    exact (hK5.block _ (Nat.lt_of_lt_of_le hl H5.out.1.size)).trans ((H5.out.1.block _ hl).trans h4)
  have hY5 : V5.heap[W5.heap.size]? = some (.cells #[.int .i64 en, .slice ra1 outs.length rc1, .slice rs1 rstl.length rd1] 57 (0, 0)) := by rw [hV]; exact heap_alloc_new _ _
  have hO5 : OwnAt V5 w.heap.size ins := (((HV.out.1.below H4.out.1).below HV4.out.2.1).below H5.out.1).below hK5
  have HT5 := (show Hid _ from And.intro (hT5.below hK5) (And.intro hB5 (And.intro hX5 (And.intro hY5 hO5))))
  have c1 : V5.cell? ⟨W4.heap.size, 0, none⟩ = some (.int .i64 en) := by rw [(box_cells hX5).1]; rfl
  have c2 : V5.cell? ⟨W4.heap.size, 1, none⟩ = some (.slice oa outs.length oc) := by rw [(box_cells hX5).1]; rfl
  have c3 : V5.cell? ⟨W4.heap.size, 2, none⟩ = some (.slice sa stl.length sc) := by rw [(box_cells hX5).1]; rfl
  have d1 : V5.cell? ⟨W5.heap.size, 0, none⟩ = some (.int .i64 en) := by rw [(box_cells hY5).1]; rfl
  have d2 : V5.cell? ⟨W5.heap.size, 1, none⟩ = some (.slice ra1 outs.length rc1) := by rw [(box_cells hY5).1]; rfl
  have d3 : V5.cell? ⟨W5.heap.size, 2, none⟩ = some (.slice rs1 rstl.length rd1) := by rw [(box_cells hY5).1]; rfl
  have hS5 := tok_same HT5.out.1
  dsimp only at hS5
  have HS5 := (show Hid _ from hS5)
  clear hV hB5 hK5 hX5 hY5 hO5 hT5 hS5
  go_upto_region 8 with (go_at_call 28; refine Calls.mono HS5.out ?_; rintro e W6 ⟨rfl, hb6⟩)
  clear c1 c2 c3 d1 d2 d3 HS5
  have H6 := (show Hid _ from hb6)
  clear hb6
  have hO6 := HT5.out.2.2.2.2.below H6.out
  have hB6 := HT5.out.2.1.trans (H6.out.mono HT5.out.2.1.size)
  have hS6 := same64_any (some ⟨w.heap.size, 0, none⟩) ia (ins.length + 1) ic ins W6 hO6.ints (inl_ints (inl_up HIn.out hB6)) (by omega)
  have HS6 := (show Hid _ from And.intro hS6 hO6)
  clear hO6 hB6 hS6
  go_wp2_with (go_at_call 29; refine Calls.mono HS6.out.1 ?_; rintro e W7 ⟨rfl, hb7⟩; have c7 := (HS6.out.2.below hb7).last; have H7 := (show Hid _ from hb7); clear hb7)
  have hO7 := HS6.out.2.below H7.out
  have HO7 : Hid (OwnAt W7 w.heap.size ins) := hO7
  clear c7 hO7 HS6
  go_loopw [17] (fun i wr => ∃ k : Nat, i = .int .i64 k ∧ k ≤ ins.length ∧ Hid (OwnAt wr w.heap.size ((ins.take k).map turnd ++ ins.drop k)) ∧ Hid (Fr (fun j => j ≠ w.heap.size) W7 wr)) (fun i _ => ins.length - (intOf i).toNat)
  case atStart => exact ⟨0, rfl, Nat.zero_le _, (by show OwnAt _ _ _; rw [List.take_zero, List.map_nil, List.nil_append, List.drop_zero]; exact HO7.out), Fr.refl _ _⟩
  case round =>
    obtain ⟨k, rfl, hk, HR, HG⟩ := hrel
    by_cases hlt : k < ins.length
    · as_aux_lemma =>
      have hki : (k : Int) < (ins.length : Int) := by omega
      obtain ⟨x, hx⟩ : ∃ x, ins[k]? = some x := ⟨_, List.getElem?_eq_getElem hlt⟩
      have hxk : ((ins.take k).map turnd ++ ins.drop k)[k]? = some x := (turnd_at k ins hk).trans hx
      have cx := HR.out.cell hxk
      have cf : ∀ o, wr.frozen? ⟨w.heap.size, o, none⟩ = false := fun o => by simp [World.frozen?, show wr.heap[w.heap.size]? = _ from HR.out]
      have HX := (show Hid _ from hx)
      clear hx hxk
      go_wp2_with fail
      have hs := HR.out.set (k := k) (by simp; omega) (turnd x)
      rw [set_turnd k ins x HX.out] at hs
      exact ⟨⟨k + 1, rfl, by omega, hs, HG.out.set (fun _ h => h)⟩, by simp only [intOf]; omega⟩
    · obtain rfl : k = ins.length := by omega
      have hki : ¬ ((ins.length : Int) < (ins.length : Int)) := by omega
      have hO8 := HR.out
      rw [List.take_length, List.drop_length, List.append_nil] at hO8
      have hb1 : 0 + ins.length ≤ maxLen := by unfold maxLen; omega
      have hb2 : (0 + ins.length) * 8 ≤ 140737488355328 := by omega
      have HO8 : Hid (OwnAt wr w.heap.size (ins.map turnd)) := hO8
      have HB8 := (show Hid _ from And.intro hb1 hb2)
      have HG8 : Hid (Fr (fun j => j ≠ w.heap.size) W7 wr) := HG
      clear hO8 HR HG hb1 hb2 HO7
      go_upto_region 14 with (at_builtin; refine wpList_append_own_at _ rfl (.const (.slice none 0 0)) (.tmp 82) 23 rfl wr.heap.size 2 i1 (.int .i64 0) 1 8 Tryz.underlying23 HI.out.1 HI.out.2.1 HI.out.2.2.1 HI.out.2.2.2 rfl (by decide) (.slice none 0 0) 0 [] rfl (World.ownsRow_nil _ _ _ _) ⟨w.heap.size, 0, none⟩ ins.length (ins.length + 1) ((ins.map turnd).map (Value.int .i64)) rfl (by simp) HO8.out.news.1 HO8.out.news.2 HB8.out.1 HB8.out.2 (Nat.le_refl _) ?_; intro v9 W9 o9 g9 _ n9; rw [Nat.zero_add, List.nil_append] at o9; obtain ⟨ta, tc, rfl⟩ := sl_of_own o9; have H9 := (show Hid _ from And.intro o9 (below_grown g9)); clear o9 g9 n9)
      have hB7 := (HT5.out.2.1.trans (H6.out.mono HT5.out.2.1.size)).trans (H7.out.mono (Nat.le_trans HT5.out.2.1.size H6.out.size))
      have hB8 := below_of_fr hB7 HG8.out
      have hB9 := hB8.trans (H9.out.2.mono hB8.size)
      have hO9 := HO8.out.below H9.out.2
      have hT9 := (((HT5.out.1.below H6.out).below H7.out).fr HG8.out.size (fun k hk hl => HG8.out.block k hl (by omega))).below H9.out.2
      have hX7 := stay_at (stay_at HT5.out.2.2.1 H6.out) H7.out
      have hY7 := stay_at (stay_at HT5.out.2.2.2.1 H6.out) H7.out
      have hs4 : w.heap.size < W4.heap.size := Nat.lt_of_lt_of_le HV.out.1.lt H4.out.1.size
      have hs5 : W4.heap.size ≤ W5.heap.size := Nat.le_trans HV4.out.2.1.size H5.out.1.size
      have hX9 := stay_at ((HG8.out.block _ (Array.getElem?_eq_some_iff.1 hX7).1 (by omega)).trans hX7) H9.out.2
      have hY9 := stay_at ((HG8.out.block _ (Array.getElem?_eq_some_iff.1 hY7).1 (by omega)).trans hY7) H9.out.2
      have HA9 := (show Hid _ from And.intro hB9 (And.intro hO9 (And.intro hT9 (And.intro hX9 (And.intro hY9 (And.intro hs4 hs5))))))
      clear hB7 hB8 hB9 hO9 hT9 hX7 hY7 hX9 hY9 hs4 hs5 HT5 H6 H7 HG8 HO8 HB8 H5 H4 HV4 hki hk hlt
      go_upto_region 15 with (go_at_call 23; refine Calls.mono (HR2.out _ _ W9 (HE.out.up HA9.out.1) (own_inln HA9.out.2.1 (by simp) HV.out.2.2)) ?_; rintro e W10 ⟨hb4, oa2, oc2, sa2, sc2, stl2, rfl, ht4, hs4⟩; have H10 := (show Hid _ from And.intro hb4 (And.intro ht4 hs4)); clear hb4 ht4 hs4)
      obtain ⟨V10, hV⟩ : ∃ V10, V10 = W10.alloc (.cells #[.int .i64 en2, .slice oa2 outs2.length oc2, .slice sa2 stl2.length sc2] 57) := ⟨_, rfl⟩
      rw [← hV]
      have hK10 : Below W10.heap.size W10 V10 := by rw [hV]; exact (Below.refl _ _).alloc (Nat.le_refl _) _
      have hX10 : V10.heap[W10.heap.size]? = some (.cells #[.int .i64 en2, .slice oa2 outs2.length oc2, .slice sa2 stl2.length sc2] 57 (0, 0)) := by rw [hV]; exact heap_alloc_new _ _
      have hR10 := own_of_below (own_of_below H9.out.1 H10.out.1) hK10
      have HV10 := (show Hid _ from And.intro hK10 (And.intro hX10 (own_inl hR10 (by simp))))
      clear hV hK10 hX10 hR10
      go_upto_region 16 with (go_at_call 27; refine Calls.mono (HD2.out _ _ V10 HV10.out.2.2) ?_; rintro e W11 ⟨hb5, ra2, rc2, rs2, rd2, rstl2, rfl, q1, q2, q3, q4⟩; have H11 := (show Hid _ from And.intro hb5 (And.intro q1 (And.intro q2 (And.intro q3 q4)))); clear hb5 q1 q2 q3 q4)
      have hT11 := pair_tok (B := 0) (en := en2) H10.out.2.1 H10.out.2.2 (HV10.out.1.trans (H11.out.1.mono HV10.out.1.size)) H11.out.2.1 H11.out.2.2.1 H11.out.2.2.2.1 H11.out.2.2.2.2 (Nat.zero_le _) (Nat.zero_le _)
      obtain ⟨V11, hV⟩ : ∃ V11, V11 = W11.alloc (.cells #[.int .i64 en2, .slice ra2 outs2.length rc2, .slice rs2 rstl2.length rd2] 57) := ⟨_, rfl⟩
      rw [← hV]
      have hK11 : Below W11.heap.size W11 V11 := by rw [hV]; exact (Below.refl _ _).alloc (Nat.le_refl _) _
      have hX11 := stay_at (stay_at HV10.out.2.1 H11.out.1) hK11
      have hY11 : V11.heap[W11.heap.size]? = some (.cells #[.int .i64 en2, .slice ra2 outs2.length rc2, .slice rs2 rstl2.length rd2] 57 (0, 0)) := by rw [hV]; exact heap_alloc_new _ _
      have hF11 : Below W9.heap.size W9 V11 := ((H10.out.1.trans (HV10.out.1.mono H10.out.1.size)).trans (H11.out.1.mono (Nat.le_trans H10.out.1.size HV10.out.1.size))).trans (hK11.mono (Nat.le_trans (Nat.le_trans H10.out.1.size HV10.out.1.size) H11.out.1.size))
      have hS11 := tok_same (hT11.below hK11)
      dsimp only at hS11
      obtain ⟨c1, c2, c3⟩ := tr_cells hX11
      obtain ⟨d1, d2, d3⟩ := tr_cells hY11
      have HS11 := (show Hid _ from And.intro hS11 hF11)
      clear hV hT11 hK11 hX11 hY11 hF11 hS11
      go_upto_region 18 with (first | (go_at_call 28; refine Calls.mono HS11.out.1 ?_; rintro e W12 ⟨rfl, hb12⟩; have H12 := (show Hid _ from hb12); clear hb12 c1 c2 c3 d1 d2 d3) | (go_at_call 26; refine Calls.mono (lnum_any er2 _ HE1.out.2) ?_; rintro e W13 ⟨rfl, rfl⟩))
      have hF13 := HS11.out.2.trans (H12.out.mono HS11.out.2.size)
      have hB13 := HA9.out.1.trans (hF13.mono HA9.out.1.size)
      have hX13 := stay_at HA9.out.2.2.2.1 hF13
      have hY13 := stay_at HA9.out.2.2.2.2.1 hF13
      have hBX := HW.out.bx.below hB13
      have hl13 := hBX.lt
      have hx13 := (Array.getElem?_eq_some_iff.1 hX13).1
      have hy13 := (Array.getElem?_eq_some_iff.1 hY13).1
      have hbB : B ≤ W13.heap.size := by have := hBX.low; omega
      have e5 : W13.cell? ⟨bb, 5, none⟩ = some (.slice wa T.length wk) := by rw [(box_cells hBX.box).1]; rfl
      have f5 := (box_cells hBX.box).2
      obtain ⟨c1, c2, c3⟩ := tr_cells hX13
      have g1 := far1 hl13
      have g2 := far1_fz hl13
      have n1 : bb ≠ W13.heap.size := by omega
      have n2 : W13.heap.size ≠ bb := by omega
      have n3 : W4.heap.size ≠ W13.heap.size := by omega
      have n4 : W13.heap.size ≠ W4.heap.size := by omega
      have hl1 : T.length + 1 ≤ maxLen := by unfold maxLen; omega
      have hl2 : (T.length + 1) * 56 ≤ 140737488355328 := by omega
      have H13 := (show Hid _ from And.intro hB13 (And.intro (HA9.out.2.2.1.below hF13) (And.intro hBX (And.intro hY13 (And.intro hbB HA9.out.2.2.2.2.2)))))
      clear hF13 hB13 hX13 hY13 hBX hl13 hx13 hy13 hbB
      go_cut [] from 24 (fun wx => ∃ wa' wc', Hid (BX wx bb B (.slice wa' (T.length + 1) wc') (.slice ra T.length rk) (T.length + 1) T.length (T.flatMap Trc.wc ++ [.int .i64 en, .slice oa outs.length oc, .slice sa stl.length sc]) (T.flatMap Trc.rcs) ∧ Fr (fun k => k ≠ bb ∧ some k ≠ (Value.slice wa T.length wk).ownBlock) W13 wx))
      case first =>
        go_region_law (refine step_own2 rfl (.tmp 117) (.tmp 119) 30 rfl B 57 i3 (.agg #[.int .i64 0, .slice none 0 0, .slice none 0 0]) 3 56 Tryz.underlying30 HI3.out.1 HI3.out.2.1 HI3.out.2.2.1 HI3.out.2.2.2 rfl (by decide) (.slice wa T.length wk) T.length (T.flatMap Trc.wc) (by simp [Act.eval, Act.put]) (by exact own_of_below H13.out.2.2.1.rw (by repeat (first | with_reducible exact Below.refl _ _ | with_reducible refine below_drewN ?_ _ | with_reducible refine Below.drew ?_ | refine Below.alloc ?_ (by first | (simp; done) | (simp; omega)) _))) ⟨W13.heap.size, 0, none⟩ 1 1 [.int .i64 en, .slice oa outs.length oc, .slice sa stl.length sc] (by simp [Act.eval, Act.put]) rfl (by exact cell_three_at _ _ _ _ _ _ (by simp)) (by intro u hu; simp at hu; rcases hu with rfl | rfl | rfl <;> rfl) hl1 hl2 (by have := H13.out.2.2.2.2.1; simp; omega) ?_; intro v4 W14 hown4 hgrow4 hnew4; obtain ⟨a4, c4, rfl⟩ := sl_of_own hown4; obtain ⟨y1, y2⟩ := H13.out.2.2.1.bookW (by repeat (first | with_reducible exact Below.refl _ _ | with_reducible refine below_drewN ?_ _ | with_reducible refine Below.drew ?_ | refine Below.alloc ?_ (by first | (simp; done) | (simp; omega)) _)) hgrow4)
        all_goals
          go_wp2_with fail
          go_meet
          case rel => exact ⟨a4, c4, H13.out.2.2.1.pushW (by repeat (first | with_reducible exact Below.refl _ _ | with_reducible refine below_drewN ?_ _ | with_reducible refine Below.drew ?_ | refine Below.alloc ?_ (by first | (simp; done) | (simp; omega)) _)) hgrow4 hown4 hnew4⟩
      case rest =>
        clear e5 f5 c1 c2 c3 g1 g2 n1 n2 n3 n4
        rename World => W15
        obtain ⟨wa', wk', HX⟩ := hcut
        have hs := H13.out.2.2.2.2.2
        have hY := H13.out.2.2.2.1
        have hYz := (Array.getElem?_eq_some_iff.1 hY).1
        have hY15 := (HX.out.2.block W5.heap.size hYz ⟨by omega, fun e => by have := (HW.out.rw.lt _ e.symm).2; omega⟩).trans hY
        have hl15 := HX.out.1.lt
        have hy15 := (Array.getElem?_eq_some_iff.1 hY15).1
        have e6 : W15.cell? ⟨bb, 6, none⟩ = some (.slice ra T.length rk) := by rw [(box_cells HX.out.1.box).1]; rfl
        have f6 := (box_cells HX.out.1.box).2
        obtain ⟨c1, c2, c3⟩ := tr_cells hY15
        have g1 := far1 hl15
        have g2 := far1_fz hl15
        have n1 : bb ≠ W15.heap.size := by omega
        have n2 : W15.heap.size ≠ bb := by omega
        have n3 : W5.heap.size ≠ W15.heap.size := by omega
        have n4 : W15.heap.size ≠ W5.heap.size := by omega
        clear hs hY hYz hY15 hl15 hy15
        go_upto_region 19 with fail
        go_cut [] from 24 (fun wx => ∃ ra' rk', Hid (BX wx bb B (.slice wa' (T.length + 1) wk') (.slice ra' (T.length + 1) rk') (T.length + 1) (T.length + 1) (T.flatMap Trc.wc ++ [.int .i64 en, .slice oa outs.length oc, .slice sa stl.length sc]) (T.flatMap Trc.rcs ++ [.int .i64 en, .slice ra1 outs.length rc1, .slice rs1 rstl.length rd1]) ∧ Fr (fun k => k ≠ bb ∧ some k ≠ (Value.slice ra T.length rk).ownBlock) W15 wx))
        case first =>
          go_region_law (refine step_own2 rfl (.tmp 127) (.tmp 129) 30 rfl B 57 i3 (.agg #[.int .i64 0, .slice none 0 0, .slice none 0 0]) 3 56 Tryz.underlying30 HI3.out.1 HI3.out.2.1 HI3.out.2.2.1 HI3.out.2.2.2 rfl (by decide) (.slice ra T.length rk) T.length (T.flatMap Trc.rcs) (by simp [Act.eval, Act.put]) (by exact own_of_below HX.out.1.rr (by repeat (first | with_reducible exact Below.refl _ _ | with_reducible refine below_drewN ?_ _ | with_reducible refine Below.drew ?_ | refine Below.alloc ?_ (by first | (simp; done) | (simp; omega)) _))) ⟨W15.heap.size, 0, none⟩ 1 1 [.int .i64 en, .slice ra1 outs.length rc1, .slice rs1 rstl.length rd1] (by simp [Act.eval, Act.put]) rfl (by exact cell_three_at _ _ _ _ _ _ (by simp)) (by intro u hu; simp at hu; rcases hu with rfl | rfl | rfl <;> rfl) hl1 hl2 (by have := HX.out.1.low; have := HX.out.1.lt; simp; omega) ?_; intro v4 W14 hown4 hgrow4 hnew4; obtain ⟨a4, c4, rfl⟩ := sl_of_own hown4; obtain ⟨y1, y2⟩ := HX.out.1.bookR (by repeat (first | with_reducible exact Below.refl _ _ | with_reducible refine below_drewN ?_ _ | with_reducible refine Below.drew ?_ | refine Below.alloc ?_ (by first | (simp; done) | (simp; omega)) _)) hgrow4)
          all_goals
            go_wp2_with fail
            go_meet
            case rel => exact ⟨a4, c4, HX.out.1.pushR (by repeat (first | with_reducible exact Below.refl _ _ | with_reducible refine below_drewN ?_ _ | with_reducible refine Below.drew ?_ | refine Below.alloc ?_ (by first | (simp; done) | (simp; omega)) _)) hgrow4 hown4 hnew4⟩
        case rest =>
          clear e6 f6 c1 c2 c3 g1 g2 n1 n2 n3 n4
          rename World => W16
          obtain ⟨ra', rk', HZ⟩ := hcut
          go_wp2_with (go_at_call 26; refine Calls.mono (lnum_any er _ HE1.out.1) ?_; rintro e W17 ⟨rfl, rfl⟩)
          go_ret
          have hlow := HW.out.low
          refine ⟨rfl, ?_, wa', wk', ra', rk', T ++ [⟨en, oa, sa, ra1, rs1, oc, sc, rc1, rd1, outs, stl, rstl, V.heap.size, W4.heap.size⟩], by simp, ?_⟩
          · have hb := H13.out.1
            have hB0 : B ≤ w.heap.size := by omega
            have hb1 := HX.out.2.below (B := B) (Nat.le_trans hB0 hb.size) (fun k hk => ⟨by omega, fun e => by have := (HW.out.rw.lt _ e.symm).1; omega⟩)
            have hb2 := HZ.out.2.below (B := B) (Nat.le_trans (Nat.le_trans hB0 hb.size) HX.out.2.size) (fun k hk => ⟨by omega, fun e => by have := (HW.out.rr.lt _ e.symm).1; omega⟩)
            exact ((hb.mono hB0).trans hb1).trans hb2
          · rw [show (T ++ [(⟨en, oa, sa, ra1, rs1, oc, sc, rc1, rd1, outs, stl, rstl, V.heap.size, W4.heap.size⟩ : Trc)]).length = T.length + 1 by simp]
            have hfr := (HX.out.2.mono (Q := fun k => k ≠ bb ∧ some k ≠ (Value.slice wa T.length wk).ownBlock ∧ some k ≠ (Value.slice ra T.length rk).ownBlock) (fun _ _ h => ⟨h.1, h.2.1⟩)).trans HZ.out.2 (fun _ _ h => ⟨h.1, h.2.2⟩)
            refine BX.close HZ.out.1 (fun t' ht' => H13.out.2.2.1.keep hfr ?_) HW.out.ord (fun t' ht' => Nat.le_trans (HW.out.tr t' ht').top HV.out.2.1.size)
            rcases List.mem_append.1 ht' with h | h
            · exact (HW.out.tr t' h).below H13.out.1
            · simp only [List.mem_singleton] at h
              subst h
              exact H13.out.2.1.lower (by omega)
end Go.Proofs.YtmipbiligijcpaaGreatDoor
