/- The program's reader: lists of values; environments. -/
import Derived.Test.YtmipbiligijcpaaN9
import Derived.Test.YtmipbiligijcpaaN6
namespace Go.Proofs.Ytmipbiligijcpaa
set_option linter.unusedVariables false
set_option linter.unusedSimpArgs false
open Go.RowKit Go.Proofs Go.Maps

def vl0 : Vl := ⟨0, 0, 0, false, 0, 0⟩
theorem vRow_append (a b : List Vl) : vRow (a ++ b) = vRow a ++ vRow b := by simp [vRow]
theorem vRow_at' (vs : List Vl) (k j : Nat) (v : Vl) (h : vs[k]? = some v) (hj : j < 6) : (vRow vs)[k * 6 + j]? = (vCells v)[j]? := by
  have h1 : (vCells v)[j]? = some ((vCells v)[j]'(by simp [vCells]; omega)) := List.getElem?_eq_getElem _
  rw [h1]
  exact vRow_at _ k v h j _ h1
theorem set_mid {α : Type} (a l : List α) (m i : Nat) (x : α) (h : a.length = m) : (a ++ l).set (m + i) x = a ++ l.set i x := by
  rw [List.set_append_right _ _ (by omega)]
  congr 2
  omega
theorem made_vals (n : Nat) : (madeCells (Value.agg #[.int .i64 0, .int .i64 0, .int .i64 0, .bool false, .int .i64 0, .int .i64 0]).cells (n * 6)).toList = vRow (List.replicate n vl0) := by
  rw [show (Value.agg #[.int .i64 0, .int .i64 0, .int .i64 0, .bool false, .int .i64 0, .int .i64 0]).cells = #[.int .i64 0, .int .i64 0, .int .i64 0, .bool false, .int .i64 0, .int .i64 0] from rfl]
  apply List.ext_getElem?
  intro j
  by_cases hj : j < n * 6
  · have h1 : (vRow (List.replicate n vl0))[j / 6 * 6 + j % 6]? = (vCells vl0)[j % 6]? := vRow_at' _ (j / 6) (j % 6) vl0 (by rw [List.getElem?_replicate, if_pos (by omega)]) (by omega)
    rw [show j / 6 * 6 + j % 6 = j by omega] at h1
    rw [h1]
    have h6 : j % 6 < 6 := Nat.mod_lt _ (by omega)
    simp only [madeCells, Array.toList_map, Array.toList_range, List.getElem?_map, List.getElem?_range hj, Option.map_some]
    show some #[Value.int .i64 0, .int .i64 0, .int .i64 0, .bool false, .int .i64 0, .int .i64 0][j % 6]! = _
    generalize j % 6 = r at h6
    have : r = 0 ∨ r = 1 ∨ r = 2 ∨ r = 3 ∨ r = 4 ∨ r = 5 := by omega
    rcases this with rfl | rfl | rfl | rfl | rfl | rfl <;> rfl
  · rw [List.getElem?_eq_none (by simp [madeCells]; omega), List.getElem?_eq_none (by rw [vRow_len]; simp; omega)]
theorem fill_v (xs : List Vl) (n k : Nat) (x : Vl) (hk : xs.length = k) (hn : k < n) :
    ((((((vRow (xs ++ List.replicate (n - k) vl0)).set (k * 6) (.int .i64 x.kind)).set (k * 6 + 1) (.int .i64 x.lo)).set (k * 6 + 2) (.int .i64 x.hi)).set (k * 6 + 3) (.bool x.early)).set (k * 6 + 4) (.int .i64 x.first)).set (k * 6 + 5) (.int .i64 x.rank) = vRow ((xs ++ [x]) ++ List.replicate (n - (k + 1)) vl0) := by
  have hl := vRow_len xs
  rw [hk] at hl
  rw [show n - k = (n - (k + 1)) + 1 by omega, List.replicate_succ]
  simp only [vRow_append, List.append_assoc]
  rw [show vRow (vl0 :: List.replicate (n - (k + 1)) vl0) = vCells vl0 ++ vRow (List.replicate (n - (k + 1)) vl0) from rfl, show vRow [x] = vCells x by simp [vRow]]
  generalize vRow (List.replicate (n - (k + 1)) vl0) = r
  generalize vRow xs = a at hl
  generalize k * 6 = m at hl
  have e0 : ∀ (l : List Value) (y : Value), (a ++ l).set m y = a ++ l.set 0 y := fun l y => set_mid a l m 0 y hl
  rw [e0, set_mid _ _ _ _ _ hl, set_mid _ _ _ _ _ hl, set_mid _ _ _ _ _ hl, set_mid _ _ _ _ _ hl, set_mid _ _ _ _ _ hl]
  rfl
theorem zero_v (xs : List Vl) (n k j : Nat) (hk : xs.length = k) (hn : k < n) (hj : j < 6) : (vRow (xs ++ List.replicate (n - k) vl0))[k * 6 + j]? = (vCells vl0)[j]? := by
  exact vRow_at' _ k j vl0 (by rw [List.getElem?_append_right (by omega), hk, Nat.sub_self, List.getElem?_replicate, if_pos (by omega)]) hj
/-- what reading a list of values answers -/
def ListV {σ : Type} (w W' : World) (rb n : Nat) (s : ByteArray) (bad : Bool) (step : σ → List UInt8 → Option ((Vl × σ) × List UInt8)) (st : σ) (Inv : World → σ → Prop) (InvB : World → Prop) (e : Ending) : Prop :=
  ((∃ xs st' s' la lc, ifG bad (rlist step n st) s = some ((xs, st'), s'.data.toList) ∧ s'.size ≤ s.size ∧ e = .returned (.slice la n lc) ∧ (la = none → lc = 0) ∧ W'.ownsRow w.heap.size 62 6 (.slice la n lc) n (vRow xs) ∧ Rdr W' rb s' false ∧ Inv W' st') ∨
   ((bad = true ∨ ifG bad (rlist step n st) s = none) ∧ e = .returned (.slice none 0 0) ∧ ∃ s', s'.size ≤ s.size ∧ Rdr W' rb s' true ∧ InvB W'))
set_option maxHeartbeats 2000000 in
set_option maxRecDepth 100000 in
theorem plistV_any {σ : Type} (step : σ → List UInt8 → Option ((Vl × σ) × List UInt8)) (Inv : World → σ → Prop) (InvB : World → Prop) (Own : Nat → Prop) (fb xb rb n : Nat) (s : ByteArray) (bad : Bool) (st : σ) (w : World)
    (hcl : ∀ (W : World) (st : σ) (s : ByteArray) (bad : Bool), Inv W st → Rdr W rb s bad → s.size ≤ 60000 → Calls Try.prog 83 #[.pointer (some ⟨fb, 0, none⟩), .pointer (some ⟨xb, 0, none⟩)] W fun e W' => OneA W' rb s (ifG bad (step st) s) vlV (fun z => ∃ x, z = vlV x) Inv InvB e ∧ Fr (fun j => j ≠ rb ∧ ¬ Own j) W W')
    (hinv : ∀ (W W' : World) (st : σ), Inv W st → (∀ j, Own j → W'.heap[j]? = W.heap[j]?) → Inv W' st) (hinvB : ∀ (W W' : World), InvB W → (∀ j, Own j → W'.heap[j]? = W.heap[j]?) → InvB W') (hIB : ∀ W st, Inv W st → InvB W) (hown : ∀ j, Own j → j < w.heap.size) (h : Rdr w rb s bad) (hi : Inv w st) (hs : s.size ≤ 60000) (hn : n ≤ 100000000) :
    Calls Try.prog 82 #[.pointer (some ⟨rb, 0, none⟩), .int .i64 (n : Int), .func (.func 83) #[] #[.pointer (some ⟨fb, 0, none⟩), .pointer (some ⟨xb, 0, none⟩)]] w fun e W' =>
      ListV w W' rb n s bad step st Inv InvB e ∧ Fr (fun j => j ≠ rb ∧ ¬ Own j) w W' := by
  have hlt : rb < w.heap.size := (Array.getElem?_eq_some_iff.1 h).1
  have HH := (show Hid _ from And.intro hcl (And.intro hinv (And.intro hown (And.intro h hi))))
  have HB := (show Hid _ from And.intro hinvB hIB)
  clear hcl hinv hown h hi hinvB hIB
  by_cases h0 : n = 0
  · subst h0
    go_enter Try.func82, Try.ntmps82
    go_wp2_with fail
    go_ret
    refine ⟨?_, Fr.refl _ _⟩
    cases bad with
    | false => exact Or.inl ⟨[], st, s, none, 0, rfl, Nat.le_refl _, rfl, fun _ => rfl, World.ownsRow_nil _ _ _ _, HH.out.2.2.2.1, HH.out.2.2.2.2⟩
    | true => exact Or.inr ⟨Or.inl rfl, rfl, s, Nat.le_refl _, HH.out.2.2.2.1, HB.out.2 _ _ HH.out.2.2.2.2⟩
  · obtain ⟨i1, hi, hz0, hz1, hz2⟩ := info_parts infoVl
    have HI := (show Hid _ from And.intro hi (And.intro hz0 (And.intro hz1 hz2)))
    clear hi hz0 hz1 hz2
    have hn0 : ((n : Int) == 0) = false := by rw [beq_eq_false_iff_ne]; omega
    go_enter Try.func82, Try.ntmps82
    go_wp2_with (at_make; refine wpList_make_full _ rfl (.tmp 11) (.tmp 11) 48 rfl w.heap.size 62 i1 (.agg #[.int .i64 0, .int .i64 0, .int .i64 0, .bool false, .int .i64 0, .int .i64 0]) 6 Try.underlying48 HI.out.1 HI.out.2.1 HI.out.2.2.1 .i64 .i64 n n n rfl rfl rfl rfl (by rw [HI.out.2.2.2]; omega) (by unfold maxLen; omega) (by simp) ?_; intro W1 hown1 hgrow1; have H1 := (show Hid _ from And.intro hown1 hgrow1); clear hown1 hgrow1)
    have HM : Hid (W1.ownsRow w.heap.size 62 6 (.slice (some ⟨w.heap.size, 0, none⟩) n n) n (vRow (([] : List Vl) ++ List.replicate (n - 0) vl0)) ∧ Rdr W1 rb s bad ∧ Inv W1 st ∧ Fr (fun j => j ≠ rb ∧ ¬ Own j) w W1) := by
      obtain ⟨h1, g1⟩ := H1.out
      rw [made_vals] at h1
      refine ⟨by simpa using h1, HH.out.2.2.2.1.grown g1 (by simp), HH.out.2.1 w W1 st HH.out.2.2.2.2 (fun j hj => g1.block j (HH.out.2.2.1 j hj) (by simp)), Fr.of_grown g1 (fun k _ _ => by simp)⟩
    clear H1
    go_loopw [15] (fun iv wr => ∃ (k : Nat) (xs : List Vl) (st2 : σ) (s2 : ByteArray), k ≤ n ∧ iv = .int .i64 k ∧ s2.size ≤ s.size ∧ Hid (xs.length = k) ∧ Hid (rlist step k st s.data.toList = some ((xs, st2), s2.data.toList) ∧ (0 < k → bad = false)) ∧ Hid (wr.ownsRow w.heap.size 62 6 (.slice (some ⟨w.heap.size, 0, none⟩) n n) n (vRow (xs ++ List.replicate (n - k) vl0)) ∧ Rdr wr rb s2 (if k = 0 then bad else false) ∧ Inv wr st2 ∧ Fr (fun j => j ≠ rb ∧ ¬ Own j) w wr)) (fun iv _ => n - (intOf iv).toNat)
    case atStart => exact ⟨0, [], st, s, Nat.zero_le _, rfl, Nat.le_refl _, rfl, ⟨rfl, (fun h => by omega)⟩, HM.out.1, HM.out.2.1, HM.out.2.2.1, HM.out.2.2.2⟩
    case round =>
      clear HM
      obtain ⟨k, xs, st2, s2, hk, rfl, hs2, HX, HL, HW⟩ := hrel
      by_cases hlt : k < n
      · have hlti : (k : Int) < (n : Int) := by omega
        have hc := HH.out.1 wr st2 s2 (if k = 0 then bad else false) HW.out.2.2.1 HW.out.2.1 (by omega)
        have HC := (show Hid _ from hc)
        clear hc
        go_wp2_with fail
        refine Calls.mono HC.out ?_
        rintro e W2 ⟨h2, f2⟩
        have hrow := f2.own HW.out.1 (fun q hq => by simp [Value.ownBlock] at hq; subst hq; exact ⟨by omega, fun ho => by have := HH.out.2.2.1 _ ho; omega⟩)
        have hf := HW.out.2.2.2.trans f2 (fun q _ hq => hq)
        rcases h2 with ⟨x, st3, s3, hres, hsz, rfl, hr, hinv3⟩ | ⟨hres, v, s3, ⟨x, rfl⟩, rfl, hsz, hr, hinv3⟩
        · simp only [vlV]
          have hst0 := hrow.stored (k * 6) (.int .i64 x.kind)
          have hst1 := hst0.1.stored (k * 6 + 1) (.int .i64 x.lo)
          have hst2 := hst1.1.stored (k * 6 + 2) (.int .i64 x.hi)
          have hst3 := hst2.1.stored (k * 6 + 3) (.bool x.early)
          have hst4 := hst3.1.stored (k * 6 + 4) (.int .i64 x.first)
          have hst5 := hst4.1.stored (k * 6 + 5) (.int .i64 x.rank)
          have hst := And.intro hst5.1 (((((hst0.2.trans hst1.2).trans hst2.2).trans hst3.2).trans hst4.2).trans hst5.2)
          clear hst0 hst1 hst2 hst3 hst4 hst5
          rw [fill_v xs n k x HX.out hlt] at hst
          have hk1 : W2.cell? ⟨w.heap.size, k * 6, none⟩ = some (.int .i64 0) := (hrow.cellAt (k * 6 + 0) (by omega)).trans (zero_v xs n k 0 HX.out hlt (by omega))
          have hk2 : W2.cell? ⟨w.heap.size, k * 6 + 1, none⟩ = some (.int .i64 0) := (hrow.cellAt (k * 6 + 1) (by omega)).trans (zero_v xs n k 1 HX.out hlt (by omega))
          have hk3 : W2.cell? ⟨w.heap.size, k * 6 + 2, none⟩ = some (.int .i64 0) := (hrow.cellAt (k * 6 + 2) (by omega)).trans (zero_v xs n k 2 HX.out hlt (by omega))
          have hk4 : W2.cell? ⟨w.heap.size, k * 6 + 3, none⟩ = some (.bool false) := (hrow.cellAt (k * 6 + 3) (by omega)).trans (zero_v xs n k 3 HX.out hlt (by omega))
          have hk5 : W2.cell? ⟨w.heap.size, k * 6 + 4, none⟩ = some (.int .i64 0) := (hrow.cellAt (k * 6 + 4) (by omega)).trans (zero_v xs n k 4 HX.out hlt (by omega))
          have hk6 : W2.cell? ⟨w.heap.size, k * 6 + 5, none⟩ = some (.int .i64 0) := (hrow.cellAt (k * 6 + 5) (by omega)).trans (zero_v xs n k 5 HX.out hlt (by omega))
          have hfz := hrow.frozenAt
          have hrs := hr.grown hst.2 (by simp; omega)
          have hi3 := HH.out.2.1 W2 _ st3 hinv3 (fun j hj => hst.2.block j (by have := HH.out.2.2.1 j hj; have := HW.out.2.2.2.size; have := f2.size; omega) (by have := HH.out.2.2.1 j hj; simp; omega))
          have hff := hf.grown hst.2 (fun q hq _ => by simp; omega)
          obtain ⟨x1, x2⟩ := box_cells hrs
          have hstep : (if k = 0 then bad else false) = false ∧ step st2 s2.data.toList = some ((x, st3), s3.data.toList) := by
            generalize (if k = 0 then bad else false) = bb at hres
            cases bb with
            | true => cases hres
            | false => exact ⟨rfl, hres⟩
          have H2 := (show Hid _ from And.intro hstep (And.intro hst.1 (And.intro hrs (And.intro hi3 hff))))
          clear hstep hst hrs hi3 hff hres hr hinv3 hrow hf f2
          go_wp2_with fail
          refine ⟨⟨k + 1, xs ++ [x], st3, s3, by omega, by go_num, by omega, by show _ = _; rw [List.length_append, HX.out]; rfl, ⟨?_, fun _ => ?_⟩, H2.out.2.1, ?_, H2.out.2.2.2.1, H2.out.2.2.2.2⟩, by simp [intOf]; omega⟩
          · rw [rlist_snoc, HL.out.1]
            simp only
            rw [H2.out.1.2]
          · by_cases hk0 : k = 0
            · have := H2.out.1.1
              rwa [if_pos hk0] at this
            · exact HL.out.2 (by omega)
          · rw [if_neg (by omega)]
            exact H2.out.2.2.1
        · simp only [vlV]
          have hst0 := hrow.stored (k * 6) (.int .i64 x.kind)
          have hst1 := hst0.1.stored (k * 6 + 1) (.int .i64 x.lo)
          have hst2 := hst1.1.stored (k * 6 + 2) (.int .i64 x.hi)
          have hst3 := hst2.1.stored (k * 6 + 3) (.bool x.early)
          have hst4 := hst3.1.stored (k * 6 + 4) (.int .i64 x.first)
          have hst5 := hst4.1.stored (k * 6 + 5) (.int .i64 x.rank)
          have hst := And.intro hst5.1 (((((hst0.2.trans hst1.2).trans hst2.2).trans hst3.2).trans hst4.2).trans hst5.2)
          clear hst0 hst1 hst2 hst3 hst4 hst5
          have hk1 : W2.cell? ⟨w.heap.size, k * 6, none⟩ = some (.int .i64 0) := (hrow.cellAt (k * 6 + 0) (by omega)).trans (zero_v xs n k 0 HX.out hlt (by omega))
          have hk2 : W2.cell? ⟨w.heap.size, k * 6 + 1, none⟩ = some (.int .i64 0) := (hrow.cellAt (k * 6 + 1) (by omega)).trans (zero_v xs n k 1 HX.out hlt (by omega))
          have hk3 : W2.cell? ⟨w.heap.size, k * 6 + 2, none⟩ = some (.int .i64 0) := (hrow.cellAt (k * 6 + 2) (by omega)).trans (zero_v xs n k 2 HX.out hlt (by omega))
          have hk4 : W2.cell? ⟨w.heap.size, k * 6 + 3, none⟩ = some (.bool false) := (hrow.cellAt (k * 6 + 3) (by omega)).trans (zero_v xs n k 3 HX.out hlt (by omega))
          have hk5 : W2.cell? ⟨w.heap.size, k * 6 + 4, none⟩ = some (.int .i64 0) := (hrow.cellAt (k * 6 + 4) (by omega)).trans (zero_v xs n k 4 HX.out hlt (by omega))
          have hk6 : W2.cell? ⟨w.heap.size, k * 6 + 5, none⟩ = some (.int .i64 0) := (hrow.cellAt (k * 6 + 5) (by omega)).trans (zero_v xs n k 5 HX.out hlt (by omega))
          have hfz := hrow.frozenAt
          have hrs := hr.grown hst.2 (by simp; omega)
          have hi3 := HB.out.1 W2 _ hinv3 (fun j hj => hst.2.block j (by have := HH.out.2.2.1 j hj; have := HW.out.2.2.2.size; have := f2.size; omega) (by have := HH.out.2.2.1 j hj; simp; omega))
          have hff := hf.grown hst.2 (fun q hq _ => by simp; omega)
          obtain ⟨x1, x2⟩ := box_cells hrs
          have hnone : ifG bad (rlist step n st) s = none := by
            unfold ifG
            cases hbad : bad with
            | true => rfl
            | false =>
              simp only [Bool.false_eq_true, if_false]
              have hstep : step st2 s2.data.toList = none := by
                rw [hbad] at hres
                simpa [ifG] using hres
              refine rlist_none step (k := k + 1) ?_ (by omega)
              rw [rlist_snoc, HL.out.1]
              simp only
              rw [hstep]
          have H2 := (show Hid _ from And.intro hnone (And.intro hrs (And.intro hi3 hff)))
          clear hnone hst hrs hi3 hff hres hr hinv3 hrow hf f2
          go_wp2_with fail
          go_ret
          exact ⟨Or.inr ⟨Or.inr H2.out.1, rfl, s3, by omega, H2.out.2.1, H2.out.2.2.1⟩, H2.out.2.2.2⟩
      · obtain rfl : k = n := by omega
        have hlti : ¬ (k : Int) < (k : Int) := by omega
        have HE : Hid (ifG bad (rlist step k st) s = some ((xs, st2), s2.data.toList)) := by
          show _ = _
          rw [HL.out.2 (by omega)]
          exact HL.out.1
        go_wp2_with fail
        go_ret
        refine ⟨Or.inl ⟨xs, st2, s2, some ⟨w.heap.size, 0, none⟩, k, HE.out, hs2, rfl, (fun h => by cases h), ?_, ?_, HW.out.2.2.1⟩, HW.out.2.2.2⟩
        · have := HW.out.1
          simpa using this
        · have := HW.out.2.1
          rwa [if_neg h0] at this
end Go.Proofs.Ytmipbiligijcpaa
