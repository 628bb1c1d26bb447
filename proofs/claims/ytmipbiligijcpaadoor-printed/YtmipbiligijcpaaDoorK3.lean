/- Printed. -/
import Derived.Test.YtmipbiligijcpaaDoorK1
namespace Go.Proofs.YtmipbiligijcpaaDoor
set_option linter.unusedVariables false
set_option linter.unusedSimpArgs false
open Go.RowKit Go.Proofs Go.Maps

theorem runR_bad {s : ByteArray} {b : Bool} (h : prs s = .inl b) (ins : List Int) (fuel : Int) : runR s ins fuel = (prE s, (0, [], []), 0) := by
  unfold runR prE
  rw [h]
  cases b <;> rfl
theorem runR_good {s : ByteArray} {pl : List PN} {vs : List Nam} {ps : List (Nam × Nat)} (h : prs s = Pr.ok pl vs) (hp : plc 0 [] (pl.map PN.lab) = some ps) {ins : List Int} (hi : ins.length ≤ 100) {f : Nat} (hf : f ≤ 2000) : runR s ins f = (0, runF pl ps f 0 (List.replicate vs.length 0) ins [] [], vs.length) := by
  unfold runR
  rw [h]
  simp only
  rw [if_neg (by omega)]
  unfold runG
  rw [hp]
  simp only [Int.toNat_natCast]
theorem ok_plc {s : ByteArray} {pl : List PN} {vs : List Nam} (h : prs s = Pr.ok pl vs) : ∃ ps, plc 0 [] (pl.map PN.lab) = some ps := by
  obtain ⟨_, _, hok, _⟩ := prs_ok h
  simp only [progOk, Bool.and_eq_true] at hok
  have hlk := hok.2
  unfold linkOk at hlk
  rw [nc_labs] at hlk
  cases e : plc 0 [] (pl.map PN.lab) with
  | none => rw [e] at hlk; simp at hlk
  | some ps => exact ⟨ps, rfl⟩
theorem inl_nil (w : World) (B : Nat) : InL w B (.slice none ([] : List Int).length 0) [] := ⟨none, 0, rfl, by simp, by simp, fun j x hj => by simp at hj⟩
theorem InL.up {w w' : World} {v : Value} {ins : List Int} (h : InL w w.heap.size v ins) (hb : Below w.heap.size w w') : InL w' w'.heap.size v ins := by
  obtain ⟨ao, cap, h1, h2, h3, h4⟩ := h
  refine ⟨ao, cap, h1, h2, h3, fun j x hj => ?_⟩
  obtain ⟨b, o, e, hlt, hc⟩ := h4 j x hj
  exact ⟨b, o, e, Nat.lt_of_lt_of_le hlt hb.size, (cell_block (hb.block b hlt)).trans hc⟩
theorem inl_100 {w : World} {B ic : Nat} {ia : Option Addr} {ins : List Int} (hl : 100 < ins.length) (h : InL w B (.slice ia ins.length ic) ins) : InL w B (.slice ia (ins.take 100).length ic) (ins.take 100) := by
  obtain ⟨ao, cap, e, h1, h2, h3⟩ := h
  cases e
  refine ⟨_, _, rfl, by simp; omega, h2, fun j x hj => ?_⟩
  have hjl := (List.getElem?_eq_some_iff.1 hj).1
  rw [List.getElem?_take] at hj
  split at hj
  · exact h3 j x hj
  · cases hj
theorem trc_lens {w w' : World} {nv : Nat} {r : Int × List Int × List (Nat × List Int)} {ov sv : Value} {stl : List Stp} (h : TrcIs w w' nv r ov sv stl) (h8 : nv ≤ 8) : ∀ x ∈ r.2.2, x.2.length ≤ 8 := by
  intro x hx
  rw [← h.2.2.1] at hx
  obtain ⟨s, hs, rfl⟩ := List.mem_map.1 hx
  have := (h.2.2.2.1 s hs).2.1
  show s.2.2.length ≤ 8
  omega
theorem run_outs (pl : List PN) (ps : List (Nam × Nat)) : ∀ (f k : Nat) (vals ins outs : List Int) (st : List (Nat × List Int)), (runF pl ps f k vals ins outs st).2.1.length ≤ outs.length + f := by
  intro f
  induction f with
  | zero => intro k vals ins outs st; simp [runF]
  | succ f ih =>
    intro k vals ins outs st
    rw [runF]
    split
    · simp
    · rename_i p _
      have h1 := (vis_vals p.n vals ins outs).2
      split
      · have := ih ((edgK ps p.nc k).getD (edgN p.n (vis p.n vals ins outs).2.1).toNat 0).toNat (vis p.n vals ins outs).2.1 (vis p.n vals ins outs).2.2.1 (vis p.n vals ins outs).2.2.2 (st ++ [(k, vals)])
        omega
      · simp only; omega
set_option maxHeartbeats 4000000 in
set_option maxRecDepth 100000 in
theorem printed_bad (s : ByteArray) (ia : Option Addr) (il ic : Nat) (fuel more : Int) (b : Bool) (w : World) (hE : Env w) (hr : prs s = .inl b) :
    Calls Tryd.prog 3 #[.string s, .slice ia il ic, .int .i64 fuel, .int .i64 more] w fun e w' => e = .returned (.bool true) ∧ Below w.heap.size w w' := by
  have hp : prn s = ⟨#[]⟩ := by unfold prn; rw [hr]
  obtain ⟨q, hq, hq0, hq1, hq2⟩ : ∃ q, prE s = q ∧ (q != 0) = true ∧ (q == 0) = false ∧ (q == q) = true := by
    unfold prE; rw [hr]
    cases b
    · exact ⟨1, rfl, rfl, rfl, rfl⟩
    · exact ⟨2, rfl, rfl, rfl, rfl⟩
  have hP : ∀ W, Env W → Calls Tryd.prog 5 #[.string s] W fun e w' => e = .returned (.tuple #[.string ⟨#[]⟩, .int .i64 q]) ∧ Below W.heap.size W w' := by
    intro W hW
    have := wPrint_any s W hW
    rw [hp, hq] at this
    exact this
  have hR : ∀ W, Env W → Calls Tryd.prog 6 #[.string s, .slice none 0 0, .int .i64 0] W fun e w' => Below W.heap.size W w' ∧ ∃ oa oc sa sc, e = .returned (.tuple #[.agg #[.int .i64 0, .slice oa 0 oc, .slice sa 0 sc], .int .i64 q]) := by
    intro W hW
    have := wRun_any s [] none 0 0 W hW (inl_nil _ _)
    rw [runR_bad hr, hq] at this
    refine this.mono ?_
    rintro e w' ⟨hb, ov, sv, stl, rfl, ho, hs, hst, _⟩
    have hl : stl.length = 0 := by have := congrArg List.length hst; simpa [stOf] using this
    obtain ⟨oa, oc, rfl⟩ := sl_of_own ho
    obtain ⟨sa, sc, rfl⟩ := sl_of_own hs
    rw [hl]
    exact ⟨hb, oa, oc, sa, sc, rfl⟩
  have HP : Hid (_ ∧ _) := ⟨hP, hR⟩
  clear hP hR hp hq hr
  go_enter Tryd.func3, Tryd.ntmps3
  go_wp2_with fail
  refine (sure_any _ hE).mono ?_
  rintro e W1 ⟨rfl, hb1⟩
  have hE1 := hE.up hb1
  go_wp2_with fail
  refine Calls.mono (HP.out.1 _ hE1) ?_
  rintro e W2 ⟨rfl, hb2⟩
  have hE2 := hE1.up hb2
  go_wp2_with fail
  refine Calls.mono (HP.out.2 _ hE2) ?_
  rintro e W3 ⟨hb3, oa, oc, sa, sc, rfl⟩
  have hB3 : Below w.heap.size w W3 := (hb1.trans (hb2.mono hb1.size)).trans (hb3.mono (Nat.le_trans hb1.size hb2.size))
  go_wp2_with fail
  go_ret
  exact ⟨rfl, hB3.alloc hB3.size _⟩
set_option maxHeartbeats 8000000 in
set_option maxRecDepth 100000 in
theorem printed_good (s : ByteArray) (ia : Option Addr) (ic : Nat) (ins : List Int) (fuel more : Int) (pl : List PN) (vs : List Nam) (w : World) (hE : Env w) (hI : InL w w.heap.size (.slice ia ins.length ic) ins) (hf : -9223372036854775808 ≤ fuel ∧ fuel ≤ 9223372036854775807) (hm : -9223372036854775808 ≤ more ∧ more ≤ 9223372036854775807) (hr : prs s = Pr.ok pl vs) :
    Calls Tryd.prog 3 #[.string s, .slice ia ins.length ic, .int .i64 fuel, .int .i64 more] w fun e w' => e = .returned (.bool true) ∧ Below w.heap.size w w' := by
  obtain ⟨ps, hps⟩ := ok_plc hr
  obtain ⟨hz, h0, hok, _, hs3⟩ := prs_ok hr
  have hv8 : vs.length ≤ 8 := by simp only [progOk, Bool.and_eq_true, decide_eq_true_eq] at hok; exact hok.1.1.1
  have hlong := printed_long hr
  obtain ⟨a, ha⟩ : ∃ a : ByteArray, a = ⟨(prt pl).toArray⟩ := ⟨_, rfl⟩
  have hasz : a.size = (prt pl).length := by rw [ha]; rfl
  have hp : prn s = a ∧ prE s = 0 := by
    constructor
    · unfold prn; rw [hr, ha]
    · unfold prE; rw [hr]
  have hane : a.toList.isEmpty = false := by
    rw [ByteArray.toList_eq, ha]
    cases pl with
    | nil => simp at h0
    | cons p r => simp [prt, lineOf]
  have hP : ∀ W, Env W → Calls Tryd.prog 5 #[.string s] W fun e w' => e = .returned (.tuple #[.string a, .int .i64 0]) ∧ Below W.heap.size W w' := by
    intro W hW
    have := wPrint_any s W hW
    rw [hp.1, hp.2] at this
    exact this
  have hR : ∀ W, Env W → Calls Tryd.prog 6 #[.string s, .slice none 0 0, .int .i64 0] W fun e w' => Below W.heap.size W w' ∧ ∃ oa oc sa sc, e = .returned (.tuple #[.agg #[.int .i64 4, .slice oa 0 oc, .slice sa 0 sc], .int .i64 0]) := by
    intro W hW
    have := wRun_any s [] none 0 ((0 : Nat) : Int) W hW (inl_nil _ _)
    rw [runR_good hr hps (by simp) (by omega)] at this
    refine this.mono ?_
    rintro e w' ⟨hb, ov, sv, stl, rfl, ho, hs, hst, _⟩
    have hl : stl.length = 0 := by have := congrArg List.length hst; simpa [stOf, runF] using this
    obtain ⟨oa, oc, rfl⟩ := sl_of_own ho
    obtain ⟨sa, sc, rfl⟩ := sl_of_own hs
    rw [hl]
    exact ⟨hb, oa, oc, sa, sc, rfl⟩
  have HP : Hid (_ ∧ _) := ⟨hP, hR⟩
  by_cases hbig : 3000 < a.size
  · have d1 : decide (3000 < (a.size : Int)) = true := decide_eq_true (by omega)
    have d2 : ((a.size : Int) == 3001) = true := by rw [beq_iff_eq]; omega
    clear hP hR hp hr ha hasz hlong hbig
    go_enter Tryd.func3, Tryd.ntmps3
    go_wp2_with fail
    refine (sure_any _ hE).mono ?_
    rintro e W1 ⟨rfl, hb1⟩
    have hE1 := hE.up hb1
    go_wp2_with fail
    refine Calls.mono (HP.out.1 _ hE1) ?_
    rintro e W2 ⟨rfl, hb2⟩
    have hE2 := hE1.up hb2
    go_wp2_with fail
    refine Calls.mono (HP.out.2 _ hE2) ?_
    rintro e W3 ⟨hb3, oa, oc, sa, sc, rfl⟩
    have hB3 : Below w.heap.size w W3 := (hb1.trans (hb2.mono hb1.size)).trans (hb3.mono (Nat.le_trans hb1.size hb2.size))
    go_wp2_with fail
    go_ret
    exact ⟨rfl, hB3.alloc hB3.size _⟩
  · have d1 : decide (3000 < (a.size : Int)) = false := decide_eq_false (by omega)
    have hra : prs a = Pr.ok pl vs := by rw [ha]; exact printed_same hr (by omega)
    have hP2 : ∀ W, Env W → Calls Tryd.prog 5 #[.string a] W fun e w' => e = .returned (.tuple #[.string a, .int .i64 0]) ∧ Below W.heap.size W w' := by
      intro W hW
      have := wPrint_any a W hW
      have e1 : prn a = a := by unfold prn; rw [hra, ha]
      have e2 : prE a = 0 := by unfold prE; rw [hra]
      rw [e1, e2] at this
      exact this
    have hRn : ∀ (x : ByteArray) (W : World) (f : Nat) (lins : List Int), (x = s ∨ x = a) → Env W → f ≤ 2000 → lins.length ≤ 100 → InL W W.heap.size (.slice ia lins.length ic) lins → Calls Tryd.prog 6 #[.string x, .slice ia lins.length ic, .int .i64 f] W (RunAns W (0, runF pl ps f 0 (List.replicate vs.length 0) lins [] [], vs.length)) := by
      intro x W f lins hx hW hf2 hl hi
      have := wRun_any x lins ia ic (f : Int) W hW hi
      rcases hx with rfl | rfl
      · rw [runR_good hr hps hl hf2] at this; exact this
      · rw [runR_good hra hps hl hf2] at this; exact this
    have HP2 : Hid (_ ∧ _) := ⟨hP2, hRn⟩
    have HI : Hid (InL w w.heap.size (.slice ia ins.length ic) ins) := hI
    clear hP hR hp hr ha hasz hlong hbig hra hP2 hRn hI hok hs3
    go_enter Tryd.func3, Tryd.ntmps3
    go_wp2_with fail
    refine (sure_any _ hE).mono ?_
    rintro e W1 ⟨rfl, hb1⟩
    have hE1 := hE.up hb1
    go_wp2_with fail
    refine Calls.mono (HP.out.1 _ hE1) ?_
    rintro e W2 ⟨rfl, hb2⟩
    have hE2 := hE1.up hb2
    go_wp2_with fail
    refine Calls.mono (HP.out.2 _ hE2) ?_
    rintro e W3 ⟨hb3, oa, oc, sa, sc, rfl⟩
    have hB3 : Below w.heap.size w W3 := (hb1.trans (hb2.mono hb1.size)).trans (hb3.mono (Nat.le_trans hb1.size hb2.size))
    go_wp2_with fail
    have hE3 := hE2.up hb3
    clear hE hE1 hE2 hb1 hb2 hb3
    refine (pick_any fuel 2001 _ hf (by omega)).mono ?_
    rintro e W3' ⟨rfl, n, rfl, hn⟩
    have hn2 : (n : Int) ≤ 2000 := by omega
    go_wp2_with fail
    generalize hW4 : W3.alloc (.cells #[.int .i64 4, .slice oa 0 oc, .slice sa 0 sc] 29) = W4
    have hB4 : Below w.heap.size w W4 := by rw [← hW4]; exact hB3.alloc hB3.size _
    have hE4 : Env W4 := by rw [← hW4]; exact hE3.up ((Below.refl _ _).alloc (Nat.le_refl _) _)
    clear hW4 hB3 hE3
    have hlow : (0 : Int) < 2000 - (n : Int) + 1 := by omega
    refine (pick_any more (2000 - (n : Int) + 1) _ hm (by omega)).mono ?_
    rintro e W4' ⟨rfl, r, rfl, hrr⟩
    obtain ⟨m, hmn⟩ : ∃ m : Nat, m = n + r := ⟨_, rfl⟩
    have hm2 : m ≤ 2000 := by omega
    have HPP : Hid (∀ W, Env W → Calls Tryd.prog 5 #[.string a] W fun e w' => e = .returned (.tuple #[.string a, .int .i64 0]) ∧ Below W.heap.size W w') := HP2.out.1
    by_cases hlo : 100 < ins.length
    · have l1 : decide (100 < (ins.length : Int)) = true := decide_eq_true (by omega)
      have hic : ins.length ≤ ic := by
        obtain ⟨_, _, e, h1, _⟩ := HI.out
        cases e
        exact h1
      have l2 : (100 : Int) ≤ (ic : Int) := by omega
      have l3 : 100 ≤ ic := by omega
      have HRN : Hid (∀ (x : ByteArray) (W : World) (f : Nat), (x = s ∨ x = a) → Env W → Below w.heap.size w W → f ≤ 2000 → Calls Tryd.prog 6 #[.string x, .slice ia 100 ic, .int .i64 f] W (RunAns W (0, runF pl ps f 0 (List.replicate vs.length 0) (ins.take 100) [] [], vs.length))) := by
        intro x W f hx hW hbw hf2
        have := HP2.out.2 x W f (ins.take 100) hx hW hf2 (by first | omega | (simp; done) | (simp; omega)) (inl_100 hlo (InL.up HI.out hbw))
        have hl : (ins.take 100).length = 100 := by simp; omega
        rw [hl] at this
        exact this
      go_wp2_with fail
      refine Calls.mono (HPP.out _ hE4) ?_
      rintro e W5 ⟨rfl, hb5⟩
      have hE5 := hE4.up hb5
      have hB5 : Below w.heap.size w W5 := hB4.trans (hb5.mono hB4.size)
      go_wp2_with fail
      refine Calls.mono (HRN.out s _ n (Or.inl rfl) hE5 hB5 (by omega)) ?_
      obtain ⟨R1, hR1⟩ : ∃ R, runF pl ps n 0 (List.replicate vs.length 0) (ins.take 100) [] [] = R := ⟨_, rfl⟩
      rw [hR1]
      rintro e W6 ⟨hb6, ov, sv, stl, rfl, hT⟩
      obtain ⟨oa1, oc1, rfl, hol1, i1⟩ := ints_of_own hT.1 rfl
      obtain ⟨sa1, sc1, rfl, hsl1, s1⟩ := steps_of hT
      have hv1 : ∀ x ∈ R1.2.2, x.2.length ≤ 8 := trc_lens hT hv8
      have hE6 := hE5.up hb6
      have hB6 : Below w.heap.size w W6 := hB5.trans (hb6.mono hB5.size)
      have HT1 : Hid (IntsAt W6 oa1 R1.2.1 ∧ StepsAt W6 sa1 R1.2.2) := ⟨i1, s1⟩
      have HV1 : Hid (∀ x ∈ R1.2.2, x.2.length ≤ 8) := hv1
      clear i1 s1 hT hb5 hb6 hE5 hB5 hv1
      go_wp2_with fail
      generalize hW7 : W6.alloc (.cells #[.int .i64 R1.1, .slice oa1 R1.2.1.length oc1, .slice sa1 R1.2.2.length sc1] 29) = W7
      obtain ⟨tb, htb⟩ : ∃ tb, tb = W6.heap.size := ⟨_, rfl⟩
      have hb7 : Below W6.heap.size W6 W7 := by rw [← hW7]; exact (Below.refl _ _).alloc (Nat.le_refl _) _
      have HX1 : Hid (W7.heap[tb]? = some (.cells #[.int .i64 R1.1, .slice oa1 R1.2.1.length oc1, .slice sa1 R1.2.2.length sc1] 29 (0, 0))) := by
        show _ = _
        rw [← hW7, htb]; exact heap_alloc_new _ _
      rw [← htb]
      have hE7 := hE6.up hb7
      have hB7 : Below w.heap.size w W7 := hB6.trans (hb7.mono hB6.size)
      have HT2 : Hid (IntsAt W7 oa1 R1.2.1 ∧ StepsAt W7 sa1 R1.2.2) := ⟨HT1.out.1.below hb7, HT1.out.2.below hb7⟩
      clear hW7 htb hb7 hE6 hB6 HT1
      refine Calls.mono (HRN.out a _ n (Or.inr rfl) hE7 hB7 (by omega)) ?_
      rw [hR1]
      rintro e W8 ⟨hb8, ov, sv, stl, rfl, hT⟩
      obtain ⟨oa2, oc2, rfl, hol2, i2⟩ := ints_of_own hT.1 rfl
      obtain ⟨sa2, sc2, rfl, hsl2, s2⟩ := steps_of hT
      have hE8 := hE7.up hb8
      have hB8 : Below w.heap.size w W8 := hB7.trans (hb8.mono hB7.size)
      have HT3 : Hid ((IntsAt W8 oa1 R1.2.1 ∧ StepsAt W8 sa1 R1.2.2) ∧ IntsAt W8 oa2 R1.2.1 ∧ StepsAt W8 sa2 R1.2.2 ∧ W8.heap[tb]? = some (.cells #[.int .i64 R1.1, .slice oa1 R1.2.1.length oc1, .slice sa1 R1.2.2.length sc1] 29 (0, 0))) := ⟨⟨HT2.out.1.below hb8, HT2.out.2.below hb8⟩, i2, s2, (hb8.block tb (Array.getElem?_eq_some_iff.1 HX1.out).1).trans HX1.out⟩
      clear i2 s2 hT hb8 hE7 hB7 HX1 HT2
      go_wp2_with fail
      generalize hW9 : W8.alloc (.cells #[.int .i64 R1.1, .slice oa2 R1.2.1.length oc2, .slice sa2 R1.2.2.length sc2] 29) = W9
      obtain ⟨ub, hub⟩ : ∃ ub, ub = W8.heap.size := ⟨_, rfl⟩
      have hb9 : Below W8.heap.size W8 W9 := by rw [← hW9]; exact (Below.refl _ _).alloc (Nat.le_refl _) _
      have HX2 : Hid (W9.heap[ub]? = some (.cells #[.int .i64 R1.1, .slice oa2 R1.2.1.length oc2, .slice sa2 R1.2.2.length sc2] 29 (0, 0)) ∧ tb < ub) := by
        refine ⟨?_, ?_⟩
        · rw [← hW9, hub]; exact heap_alloc_new _ _
        · rw [hub]; exact (Array.getElem?_eq_some_iff.1 HT3.out.2.2.2).1
      rw [← hub]
      have hE9 := hE8.up hb9
      have hB9 : Below w.heap.size w W9 := hB8.trans (hb9.mono hB8.size)
      have HT4 : Hid ((IntsAt W9 oa1 R1.2.1 ∧ StepsAt W9 sa1 R1.2.2) ∧ IntsAt W9 oa2 R1.2.1 ∧ StepsAt W9 sa2 R1.2.2 ∧ W9.heap[tb]? = some (.cells #[.int .i64 R1.1, .slice oa1 R1.2.1.length oc1, .slice sa1 R1.2.2.length sc1] 29 (0, 0))) := ⟨⟨HT3.out.1.1.below hb9, HT3.out.1.2.below hb9⟩, HT3.out.2.1.below hb9, HT3.out.2.2.1.below hb9, (hb9.block tb (Array.getElem?_eq_some_iff.1 HT3.out.2.2.2).1).trans HT3.out.2.2.2⟩
      clear hW9 hub hb9 hE8 hB8 HT3
      have hRm := HRN.out s _ (n + r) (Or.inl rfl) hE9 hB9 (by omega)
      rw [Int.natCast_add] at hRm
      have HRm := (show Hid _ from hRm)
      clear hRm
      refine Calls.mono HRm.out ?_
      clear HRm
      obtain ⟨R2, hR2⟩ : ∃ R, runF pl ps (n + r) 0 (List.replicate vs.length 0) (ins.take 100) [] [] = R := ⟨_, rfl⟩
      rw [hR2]
      rintro e W10 ⟨hb10, ov, sv, stl, rfl, hT⟩
      obtain ⟨oa3, oc3, rfl, hol3, i3⟩ := ints_of_own hT.1 rfl
      obtain ⟨sa3, sc3, rfl, hsl3, s3⟩ := steps_of hT
      have hB10 : Below w.heap.size w W10 := hB9.trans (hb10.mono hB9.size)
      have HT5 : Hid ((IntsAt W10 oa1 R1.2.1 ∧ StepsAt W10 sa1 R1.2.2) ∧ (IntsAt W10 oa2 R1.2.1 ∧ StepsAt W10 sa2 R1.2.2) ∧ (IntsAt W10 oa3 R2.2.1 ∧ StepsAt W10 sa3 R2.2.2) ∧ W10.heap[tb]? = some (.cells #[.int .i64 R1.1, .slice oa1 R1.2.1.length oc1, .slice sa1 R1.2.2.length sc1] 29 (0, 0)) ∧ W10.heap[ub]? = some (.cells #[.int .i64 R1.1, .slice oa2 R1.2.1.length oc2, .slice sa2 R1.2.2.length sc2] 29 (0, 0))) := ⟨⟨HT4.out.1.1.below hb10, HT4.out.1.2.below hb10⟩, ⟨HT4.out.2.1.below hb10, HT4.out.2.2.1.below hb10⟩, ⟨i3, s3⟩, (hb10.block tb (Array.getElem?_eq_some_iff.1 HT4.out.2.2.2).1).trans HT4.out.2.2.2, (hb10.block ub (Array.getElem?_eq_some_iff.1 HX2.out.1).1).trans HX2.out.1⟩
      have hpre := run_more pl ps n (n + r) 0 (List.replicate vs.length 0) (ins.take 100) [] [] (by omega)
      have hst := run_steps pl ps n 0 (List.replicate vs.length 0) (ins.take 100) [] []
      have hou := run_outs pl ps n 0 (List.replicate vs.length 0) (ins.take 100) [] []
      rw [hR1, hR2] at hpre
      rw [hR1] at hst hou
      simp only [List.length_nil, Nat.zero_add] at hst hou
      have HPR : Hid (_ ∧ _ ∧ _) := ⟨hpre, hst, hou⟩
      obtain ⟨tx1, tx2⟩ := box_cells HT5.out.2.2.2.1
      obtain ⟨ux1, ux2⟩ := box_cells HT5.out.2.2.2.2
      have htz : tb < W10.heap.size := (Array.getElem?_eq_some_iff.1 HT5.out.2.2.2.1).1
      have huz : ub < W10.heap.size := (Array.getElem?_eq_some_iff.1 HT5.out.2.2.2.2).1
      have t1 : tb ≠ W10.heap.size := by omega
      have t2 : W10.heap.size ≠ tb := by omega
      have t3 : ub ≠ W10.heap.size := by omega
      have t4 : W10.heap.size ≠ ub := by omega
      clear i3 s3 hT hb10 hE9 hB9 HT4 HX2 hpre hst hou hR1 hR2 HRN HP2 HPP hE4 hB4
      go_wp2_with fail
      have hW11 : Below W10.heap.size W10 (W10.alloc (.cells #[.int .i64 R2.1, .slice oa3 R2.2.1.length oc3, .slice sa3 R2.2.2.length sc3] 29)) := (Below.refl _ _).alloc (Nat.le_refl _) _
      have hl1 : R1.2.1.length ≤ 3000 := by have := HPR.out.2.2; omega
      have hl2 : R1.2.2.length ≤ 3000 := by have := HPR.out.2.1.1; omega
      refine (ksame_any R1.1 oa1 oa2 sa1 sa2 oc1 oc2 sc1 sc2 R1.2.1 R1.2.2 _ (HT5.out.1.1.below hW11) (HT5.out.2.1.1.below hW11) (HT5.out.1.2.below hW11) (HT5.out.2.1.2.below hW11) hl1 hl2 HV1.out).mono ?_
      rintro e W12 ⟨rfl, hb12⟩
      have hvx := (hb12.block W10.heap.size (by simp)).trans (heap_alloc_new W10 (.cells #[.int .i64 R2.1, .slice oa3 R2.2.1.length oc3, .slice sa3 R2.2.2.length sc3] 29))
      have hB12 : Below W10.heap.size W10 W12 := hW11.trans (hb12.mono hW11.size)
      obtain ⟨vb, hvb⟩ : ∃ vb, vb = W10.heap.size := ⟨_, rfl⟩
      rw [← hvb] at hvx t1 t2 htz ⊢
      have HBV : Hid (Below vb W10 W12 ∧ vb = W10.heap.size) := ⟨by rw [hvb]; exact hB12, hvb⟩
      have htx := (hB12.block tb (by rw [← hvb]; exact htz)).trans HT5.out.2.2.2.1
      clear tx1 tx2 ux1 ux2 hW11 hb12 hB12
      obtain ⟨tx1, tx2⟩ := box_cells htx
      obtain ⟨vx1, vx2⟩ := box_cells hvx
      have e1 : (a.toList != a.toList) = false := by simp
      have e2 : (a.toList == a.toList) = true := by simp
      have e3 : decide ((R2.2.2.length : Int) < (R1.2.2.length : Int)) = false := decide_eq_false (by have := HPR.out.1.2.1.length_le; omega)
      have e4 : decide ((R2.2.1.length : Int) < (R1.2.1.length : Int)) = false := decide_eq_false (by have := HPR.out.1.1.length_le; omega)
      have g1 : (R1.2.2.length : Int) ≤ (sc3 : Int) := by have := HPR.out.1.2.1.length_le; omega
      have g2 : (R1.2.1.length : Int) ≤ (oc3 : Int) := by have := HPR.out.1.1.length_le; omega
      clear hvb t3 t4 huz
      have gN1 : R1.2.2.length ≤ R2.2.2.length := HPR.out.1.2.1.length_le
      have gN2 : R1.2.1.length ≤ R2.2.1.length := HPR.out.1.1.length_le
      have gM1 : ¬ R2.2.2.length < R1.2.2.length := by omega
      have gM2 : ¬ R2.2.1.length < R1.2.1.length := by omega
      have gN3 : R1.2.2.length ≤ n := HPR.out.2.1.1
      have gN4 : 0 < R1.2.2.length ↔ 0 < n := ⟨fun h => by omega, fun h => by have := HPR.out.2.1.2 h; omega⟩
      by_cases hend : R1.1 = 4
      · have k1 : (R1.1 == 4) = true := by simp [hend]
        have HEND : Hid (R1.1 = 4) := hend
        clear hend
        go_wp2_with fail
        all_goals try (exfalso; omega)
        rw [HEND.out]
        have hbf : ∀ W, Below vb W10 W → Below W10.heap.size W10 W := fun W h => HBV.out.2 ▸ h
        have hbw : Below W10.heap.size W10 (((W12.setCell ⟨vb, 2, none⟩ (.slice sa3 R1.2.2.length sc3)).setCell ⟨vb, 1, none⟩ (.slice oa3 R1.2.1.length oc3)).setCell ⟨vb, 0, none⟩ (.int .i64 4)) := hbf _ (((HBV.out.1.setCell (Nat.le_refl vb) _).setCell (Nat.le_refl vb) _).setCell (Nat.le_refl vb) _)
        refine (ksame_any 4 oa1 oa3 sa1 sa3 oc1 oc3 sc1 sc3 R1.2.1 R1.2.2 _ (HT5.out.1.1.below hbw) ((HT5.out.2.2.1.1.pre HPR.out.1.1).below hbw) (HT5.out.1.2.below hbw) ((HT5.out.2.2.1.2.pre HPR.out.1.2.1).below hbw) hl1 hl2 HV1.out).mono ?_
        rintro e W13 ⟨rfl, hb13⟩
        have hfin : Below w.heap.size w W13 := (hB10.trans (hbw.mono hB10.size)).trans (hb13.mono (Nat.le_trans hB10.size hbw.size))
        go_wp2_with fail
        go_ret
        exact ⟨rfl, hfin⟩
      · have k1 : (R1.1 == 4) = false := by simp [hend]
        have HEND : Hid (R2.1 = R1.1) := (HPR.out.1.2.2.resolve_left hend).symm
        clear hend
        go_wp2_with fail
        all_goals try (exfalso; omega)
        rw [HEND.out]
        have hbf : ∀ W, Below vb W10 W → Below W10.heap.size W10 W := fun W h => HBV.out.2 ▸ h
        have hbw : Below W10.heap.size W10 ((W12.setCell ⟨vb, 2, none⟩ (.slice sa3 R1.2.2.length sc3)).setCell ⟨vb, 1, none⟩ (.slice oa3 R1.2.1.length oc3)) := hbf _ ((HBV.out.1.setCell (Nat.le_refl vb) _).setCell (Nat.le_refl vb) _)
        refine (ksame_any R1.1 oa1 oa3 sa1 sa3 oc1 oc3 sc1 sc3 R1.2.1 R1.2.2 _ (HT5.out.1.1.below hbw) ((HT5.out.2.2.1.1.pre HPR.out.1.1).below hbw) (HT5.out.1.2.below hbw) ((HT5.out.2.2.1.2.pre HPR.out.1.2.1).below hbw) hl1 hl2 HV1.out).mono ?_
        rintro e W13 ⟨rfl, hb13⟩
        have hfin : Below w.heap.size w W13 := (hB10.trans (hbw.mono hB10.size)).trans (hb13.mono (Nat.le_trans hB10.size hbw.size))
        go_wp2_with fail
        go_ret
        exact ⟨rfl, hfin⟩
    · have l1 : decide (100 < (ins.length : Int)) = false := decide_eq_false (by omega)
      have HRN : Hid (∀ (x : ByteArray) (W : World) (f : Nat), (x = s ∨ x = a) → Env W → Below w.heap.size w W → f ≤ 2000 → Calls Tryd.prog 6 #[.string x, .slice ia ins.length ic, .int .i64 f] W (RunAns W (0, runF pl ps f 0 (List.replicate vs.length 0) (ins) [] [], vs.length))) := by
        intro x W f hx hW hbw hf2
        have := HP2.out.2 x W f (ins) hx hW hf2 (by first | omega | (simp; done) | (simp; omega)) (InL.up HI.out hbw)
        exact this
      go_wp2_with fail
      refine Calls.mono (HPP.out _ hE4) ?_
      rintro e W5 ⟨rfl, hb5⟩
      have hE5 := hE4.up hb5
      have hB5 : Below w.heap.size w W5 := hB4.trans (hb5.mono hB4.size)
      go_wp2_with fail
      refine Calls.mono (HRN.out s _ n (Or.inl rfl) hE5 hB5 (by omega)) ?_
      obtain ⟨R1, hR1⟩ : ∃ R, runF pl ps n 0 (List.replicate vs.length 0) (ins) [] [] = R := ⟨_, rfl⟩
      rw [hR1]
      rintro e W6 ⟨hb6, ov, sv, stl, rfl, hT⟩
      obtain ⟨oa1, oc1, rfl, hol1, i1⟩ := ints_of_own hT.1 rfl
      obtain ⟨sa1, sc1, rfl, hsl1, s1⟩ := steps_of hT
      have hv1 : ∀ x ∈ R1.2.2, x.2.length ≤ 8 := trc_lens hT hv8
      have hE6 := hE5.up hb6
      have hB6 : Below w.heap.size w W6 := hB5.trans (hb6.mono hB5.size)
      have HT1 : Hid (IntsAt W6 oa1 R1.2.1 ∧ StepsAt W6 sa1 R1.2.2) := ⟨i1, s1⟩
      have HV1 : Hid (∀ x ∈ R1.2.2, x.2.length ≤ 8) := hv1
      clear i1 s1 hT hb5 hb6 hE5 hB5 hv1
      go_wp2_with fail
      generalize hW7 : W6.alloc (.cells #[.int .i64 R1.1, .slice oa1 R1.2.1.length oc1, .slice sa1 R1.2.2.length sc1] 29) = W7
      obtain ⟨tb, htb⟩ : ∃ tb, tb = W6.heap.size := ⟨_, rfl⟩
      have hb7 : Below W6.heap.size W6 W7 := by rw [← hW7]; exact (Below.refl _ _).alloc (Nat.le_refl _) _
      have HX1 : Hid (W7.heap[tb]? = some (.cells #[.int .i64 R1.1, .slice oa1 R1.2.1.length oc1, .slice sa1 R1.2.2.length sc1] 29 (0, 0))) := by
        show _ = _
        rw [← hW7, htb]; exact heap_alloc_new _ _
      rw [← htb]
      have hE7 := hE6.up hb7
      have hB7 : Below w.heap.size w W7 := hB6.trans (hb7.mono hB6.size)
      have HT2 : Hid (IntsAt W7 oa1 R1.2.1 ∧ StepsAt W7 sa1 R1.2.2) := ⟨HT1.out.1.below hb7, HT1.out.2.below hb7⟩
      clear hW7 htb hb7 hE6 hB6 HT1
      refine Calls.mono (HRN.out a _ n (Or.inr rfl) hE7 hB7 (by omega)) ?_
      rw [hR1]
      rintro e W8 ⟨hb8, ov, sv, stl, rfl, hT⟩
      obtain ⟨oa2, oc2, rfl, hol2, i2⟩ := ints_of_own hT.1 rfl
      obtain ⟨sa2, sc2, rfl, hsl2, s2⟩ := steps_of hT
      have hE8 := hE7.up hb8
      have hB8 : Below w.heap.size w W8 := hB7.trans (hb8.mono hB7.size)
      have HT3 : Hid ((IntsAt W8 oa1 R1.2.1 ∧ StepsAt W8 sa1 R1.2.2) ∧ IntsAt W8 oa2 R1.2.1 ∧ StepsAt W8 sa2 R1.2.2 ∧ W8.heap[tb]? = some (.cells #[.int .i64 R1.1, .slice oa1 R1.2.1.length oc1, .slice sa1 R1.2.2.length sc1] 29 (0, 0))) := ⟨⟨HT2.out.1.below hb8, HT2.out.2.below hb8⟩, i2, s2, (hb8.block tb (Array.getElem?_eq_some_iff.1 HX1.out).1).trans HX1.out⟩
      clear i2 s2 hT hb8 hE7 hB7 HX1 HT2
      go_wp2_with fail
      generalize hW9 : W8.alloc (.cells #[.int .i64 R1.1, .slice oa2 R1.2.1.length oc2, .slice sa2 R1.2.2.length sc2] 29) = W9
      obtain ⟨ub, hub⟩ : ∃ ub, ub = W8.heap.size := ⟨_, rfl⟩
      have hb9 : Below W8.heap.size W8 W9 := by rw [← hW9]; exact (Below.refl _ _).alloc (Nat.le_refl _) _
      have HX2 : Hid (W9.heap[ub]? = some (.cells #[.int .i64 R1.1, .slice oa2 R1.2.1.length oc2, .slice sa2 R1.2.2.length sc2] 29 (0, 0)) ∧ tb < ub) := by
        refine ⟨?_, ?_⟩
        · rw [← hW9, hub]; exact heap_alloc_new _ _
        · rw [hub]; exact (Array.getElem?_eq_some_iff.1 HT3.out.2.2.2).1
      rw [← hub]
      have hE9 := hE8.up hb9
      have hB9 : Below w.heap.size w W9 := hB8.trans (hb9.mono hB8.size)
      have HT4 : Hid ((IntsAt W9 oa1 R1.2.1 ∧ StepsAt W9 sa1 R1.2.2) ∧ IntsAt W9 oa2 R1.2.1 ∧ StepsAt W9 sa2 R1.2.2 ∧ W9.heap[tb]? = some (.cells #[.int .i64 R1.1, .slice oa1 R1.2.1.length oc1, .slice sa1 R1.2.2.length sc1] 29 (0, 0))) := ⟨⟨HT3.out.1.1.below hb9, HT3.out.1.2.below hb9⟩, HT3.out.2.1.below hb9, HT3.out.2.2.1.below hb9, (hb9.block tb (Array.getElem?_eq_some_iff.1 HT3.out.2.2.2).1).trans HT3.out.2.2.2⟩
      clear hW9 hub hb9 hE8 hB8 HT3
      have hRm := HRN.out s _ (n + r) (Or.inl rfl) hE9 hB9 (by omega)
      rw [Int.natCast_add] at hRm
      have HRm := (show Hid _ from hRm)
      clear hRm
      refine Calls.mono HRm.out ?_
      clear HRm
      obtain ⟨R2, hR2⟩ : ∃ R, runF pl ps (n + r) 0 (List.replicate vs.length 0) (ins) [] [] = R := ⟨_, rfl⟩
      rw [hR2]
      rintro e W10 ⟨hb10, ov, sv, stl, rfl, hT⟩
      obtain ⟨oa3, oc3, rfl, hol3, i3⟩ := ints_of_own hT.1 rfl
      obtain ⟨sa3, sc3, rfl, hsl3, s3⟩ := steps_of hT
      have hB10 : Below w.heap.size w W10 := hB9.trans (hb10.mono hB9.size)
      have HT5 : Hid ((IntsAt W10 oa1 R1.2.1 ∧ StepsAt W10 sa1 R1.2.2) ∧ (IntsAt W10 oa2 R1.2.1 ∧ StepsAt W10 sa2 R1.2.2) ∧ (IntsAt W10 oa3 R2.2.1 ∧ StepsAt W10 sa3 R2.2.2) ∧ W10.heap[tb]? = some (.cells #[.int .i64 R1.1, .slice oa1 R1.2.1.length oc1, .slice sa1 R1.2.2.length sc1] 29 (0, 0)) ∧ W10.heap[ub]? = some (.cells #[.int .i64 R1.1, .slice oa2 R1.2.1.length oc2, .slice sa2 R1.2.2.length sc2] 29 (0, 0))) := ⟨⟨HT4.out.1.1.below hb10, HT4.out.1.2.below hb10⟩, ⟨HT4.out.2.1.below hb10, HT4.out.2.2.1.below hb10⟩, ⟨i3, s3⟩, (hb10.block tb (Array.getElem?_eq_some_iff.1 HT4.out.2.2.2).1).trans HT4.out.2.2.2, (hb10.block ub (Array.getElem?_eq_some_iff.1 HX2.out.1).1).trans HX2.out.1⟩
      have hpre := run_more pl ps n (n + r) 0 (List.replicate vs.length 0) (ins) [] [] (by omega)
      have hst := run_steps pl ps n 0 (List.replicate vs.length 0) (ins) [] []
      have hou := run_outs pl ps n 0 (List.replicate vs.length 0) (ins) [] []
      rw [hR1, hR2] at hpre
      rw [hR1] at hst hou
      simp only [List.length_nil, Nat.zero_add] at hst hou
      have HPR : Hid (_ ∧ _ ∧ _) := ⟨hpre, hst, hou⟩
      obtain ⟨tx1, tx2⟩ := box_cells HT5.out.2.2.2.1
      obtain ⟨ux1, ux2⟩ := box_cells HT5.out.2.2.2.2
      have htz : tb < W10.heap.size := (Array.getElem?_eq_some_iff.1 HT5.out.2.2.2.1).1
      have huz : ub < W10.heap.size := (Array.getElem?_eq_some_iff.1 HT5.out.2.2.2.2).1
      have t1 : tb ≠ W10.heap.size := by omega
      have t2 : W10.heap.size ≠ tb := by omega
      have t3 : ub ≠ W10.heap.size := by omega
      have t4 : W10.heap.size ≠ ub := by omega
      clear i3 s3 hT hb10 hE9 hB9 HT4 HX2 hpre hst hou hR1 hR2 HRN HP2 HPP hE4 hB4
      go_wp2_with fail
      have hW11 : Below W10.heap.size W10 (W10.alloc (.cells #[.int .i64 R2.1, .slice oa3 R2.2.1.length oc3, .slice sa3 R2.2.2.length sc3] 29)) := (Below.refl _ _).alloc (Nat.le_refl _) _
      have hl1 : R1.2.1.length ≤ 3000 := by have := HPR.out.2.2; omega
      have hl2 : R1.2.2.length ≤ 3000 := by have := HPR.out.2.1.1; omega
      refine (ksame_any R1.1 oa1 oa2 sa1 sa2 oc1 oc2 sc1 sc2 R1.2.1 R1.2.2 _ (HT5.out.1.1.below hW11) (HT5.out.2.1.1.below hW11) (HT5.out.1.2.below hW11) (HT5.out.2.1.2.below hW11) hl1 hl2 HV1.out).mono ?_
      rintro e W12 ⟨rfl, hb12⟩
      have hvx := (hb12.block W10.heap.size (by simp)).trans (heap_alloc_new W10 (.cells #[.int .i64 R2.1, .slice oa3 R2.2.1.length oc3, .slice sa3 R2.2.2.length sc3] 29))
      have hB12 : Below W10.heap.size W10 W12 := hW11.trans (hb12.mono hW11.size)
      obtain ⟨vb, hvb⟩ : ∃ vb, vb = W10.heap.size := ⟨_, rfl⟩
      rw [← hvb] at hvx t1 t2 htz ⊢
      have HBV : Hid (Below vb W10 W12 ∧ vb = W10.heap.size) := ⟨by rw [hvb]; exact hB12, hvb⟩
      have htx := (hB12.block tb (by rw [← hvb]; exact htz)).trans HT5.out.2.2.2.1
      clear tx1 tx2 ux1 ux2 hW11 hb12 hB12
      obtain ⟨tx1, tx2⟩ := box_cells htx
      obtain ⟨vx1, vx2⟩ := box_cells hvx
      have e1 : (a.toList != a.toList) = false := by simp
      have e2 : (a.toList == a.toList) = true := by simp
      have e3 : decide ((R2.2.2.length : Int) < (R1.2.2.length : Int)) = false := decide_eq_false (by have := HPR.out.1.2.1.length_le; omega)
      have e4 : decide ((R2.2.1.length : Int) < (R1.2.1.length : Int)) = false := decide_eq_false (by have := HPR.out.1.1.length_le; omega)
      have g1 : (R1.2.2.length : Int) ≤ (sc3 : Int) := by have := HPR.out.1.2.1.length_le; omega
      have g2 : (R1.2.1.length : Int) ≤ (oc3 : Int) := by have := HPR.out.1.1.length_le; omega
      clear hvb t3 t4 huz
      have gN1 : R1.2.2.length ≤ R2.2.2.length := HPR.out.1.2.1.length_le
      have gN2 : R1.2.1.length ≤ R2.2.1.length := HPR.out.1.1.length_le
      have gM1 : ¬ R2.2.2.length < R1.2.2.length := by omega
      have gM2 : ¬ R2.2.1.length < R1.2.1.length := by omega
      have gN3 : R1.2.2.length ≤ n := HPR.out.2.1.1
      have gN4 : 0 < R1.2.2.length ↔ 0 < n := ⟨fun h => by omega, fun h => by have := HPR.out.2.1.2 h; omega⟩
      by_cases hend : R1.1 = 4
      · have k1 : (R1.1 == 4) = true := by simp [hend]
        have HEND : Hid (R1.1 = 4) := hend
        clear hend
        go_wp2_with fail
        all_goals try (exfalso; omega)
        rw [HEND.out]
        have hbf : ∀ W, Below vb W10 W → Below W10.heap.size W10 W := fun W h => HBV.out.2 ▸ h
        have hbw : Below W10.heap.size W10 (((W12.setCell ⟨vb, 2, none⟩ (.slice sa3 R1.2.2.length sc3)).setCell ⟨vb, 1, none⟩ (.slice oa3 R1.2.1.length oc3)).setCell ⟨vb, 0, none⟩ (.int .i64 4)) := hbf _ (((HBV.out.1.setCell (Nat.le_refl vb) _).setCell (Nat.le_refl vb) _).setCell (Nat.le_refl vb) _)
        refine (ksame_any 4 oa1 oa3 sa1 sa3 oc1 oc3 sc1 sc3 R1.2.1 R1.2.2 _ (HT5.out.1.1.below hbw) ((HT5.out.2.2.1.1.pre HPR.out.1.1).below hbw) (HT5.out.1.2.below hbw) ((HT5.out.2.2.1.2.pre HPR.out.1.2.1).below hbw) hl1 hl2 HV1.out).mono ?_
        rintro e W13 ⟨rfl, hb13⟩
        have hfin : Below w.heap.size w W13 := (hB10.trans (hbw.mono hB10.size)).trans (hb13.mono (Nat.le_trans hB10.size hbw.size))
        go_wp2_with fail
        go_ret
        exact ⟨rfl, hfin⟩
      · have k1 : (R1.1 == 4) = false := by simp [hend]
        have HEND : Hid (R2.1 = R1.1) := (HPR.out.1.2.2.resolve_left hend).symm
        clear hend
        go_wp2_with fail
        all_goals try (exfalso; omega)
        rw [HEND.out]
        have hbf : ∀ W, Below vb W10 W → Below W10.heap.size W10 W := fun W h => HBV.out.2 ▸ h
        have hbw : Below W10.heap.size W10 ((W12.setCell ⟨vb, 2, none⟩ (.slice sa3 R1.2.2.length sc3)).setCell ⟨vb, 1, none⟩ (.slice oa3 R1.2.1.length oc3)) := hbf _ ((HBV.out.1.setCell (Nat.le_refl vb) _).setCell (Nat.le_refl vb) _)
        refine (ksame_any R1.1 oa1 oa3 sa1 sa3 oc1 oc3 sc1 sc3 R1.2.1 R1.2.2 _ (HT5.out.1.1.below hbw) ((HT5.out.2.2.1.1.pre HPR.out.1.1).below hbw) (HT5.out.1.2.below hbw) ((HT5.out.2.2.1.2.pre HPR.out.1.2.1).below hbw) hl1 hl2 HV1.out).mono ?_
        rintro e W13 ⟨rfl, hb13⟩
        have hfin : Below w.heap.size w W13 := (hB10.trans (hbw.mono hB10.size)).trans (hb13.mono (Nat.le_trans hB10.size hbw.size))
        go_wp2_with fail
        go_ret
        exact ⟨rfl, hfin⟩
end Go.Proofs.YtmipbiligijcpaaDoor
