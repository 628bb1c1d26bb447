/- The program's reader: a list of numbers, each by a function value. -/
import Derived.Test.YtmipbiligijcpaaN4
import Derived.OwnWalk
namespace Go.Proofs.Ytmipbiligijcpaa
set_option linter.unusedVariables false
set_option linter.unusedSimpArgs false
open Go.RowKit Go.Proofs Go.Maps

/-- n things, one by one -/
def rlist {σ α : Type} (step : σ → List UInt8 → Option ((α × σ) × List UInt8)) : Nat → σ → List UInt8 → Option ((List α × σ) × List UInt8)
  | 0, st, l => some (([], st), l)
  | n + 1, st, l => match step st l with
    | some ((x, st'), r) => match rlist step n st' r with
      | some ((xs, st2), q) => some ((x :: xs, st2), q)
      | none => none
    | none => none
theorem rlist_snoc {σ α : Type} (step : σ → List UInt8 → Option ((α × σ) × List UInt8)) : ∀ (n : Nat) (st : σ) (l : List UInt8), rlist step (n + 1) st l = match rlist step n st l with
    | some ((xs, st'), r) => (match step st' r with | some ((x, st2), q) => some ((xs ++ [x], st2), q) | none => none)
    | none => none
  | 0, st, l => by
    simp only [rlist]
    cases step st l with
    | none => rfl
    | some p => obtain ⟨⟨x, st'⟩, r⟩ := p; rfl
  | n + 1, st, l => by
    rw [rlist]
    cases hs : step st l with
    | none => simp [rlist, hs]
    | some p =>
      obtain ⟨⟨x, st'⟩, r⟩ := p
      simp only
      rw [rlist_snoc step n st' r]
      simp only [rlist, hs]
      cases rlist step n st' r with
      | none => rfl
      | some p2 =>
        obtain ⟨⟨xs, st2⟩, q⟩ := p2
        simp only
        cases step st2 q with
        | none => rfl
        | some p3 => obtain ⟨⟨y, st3⟩, q3⟩ := p3; rfl
theorem rlist_len {σ α : Type} (step : σ → List UInt8 → Option ((α × σ) × List UInt8)) : ∀ (n : Nat) (st : σ) (l : List UInt8) (xs : List α) (st' : σ) (r : List UInt8), rlist step n st l = some ((xs, st'), r) → xs.length = n
  | 0, st, l, xs, st', r, h => by simp [rlist] at h; rw [h.1.1]; rfl
  | n + 1, st, l, xs, st', r, h => by
    rw [rlist] at h
    cases hs : step st l with
    | none => rw [hs] at h; simp at h
    | some p =>
      obtain ⟨⟨x, st1⟩, q⟩ := p
      rw [hs] at h
      simp only at h
      cases hr : rlist step n st1 q with
      | none => rw [hr] at h; simp at h
      | some p2 =>
        obtain ⟨⟨ys, st2⟩, q2⟩ := p2
        rw [hr] at h
        simp at h
        rw [← h.1.1]
        have := rlist_len step n st1 q ys st2 q2 hr
        simp [this]
theorem rlist_none {σ α : Type} (step : σ → List UInt8 → Option ((α × σ) × List UInt8)) {n k : Nat} {st : σ} {l : List UInt8} (h : rlist step k st l = none) (hk : k ≤ n) : rlist step n st l = none := by
  induction n with
  | zero => obtain rfl : k = 0 := by omega
            exact h
  | succ n ih =>
    by_cases he : k = n + 1
    · subst he; exact h
    · rw [rlist_snoc, ih (by omega)]
theorem fill_set (xs : List Int) (n k : Nat) (x : Int) (hk : xs.length = k) (hn : k < n) : (((xs ++ List.replicate (n - k) 0).map (Value.int .i64)).set k (.int .i64 x)) = ((xs ++ [x]) ++ List.replicate (n - (k + 1)) 0).map (Value.int .i64) := by
  rw [← List.map_set]
  congr 1
  rw [List.set_append_right _ _ (by omega), hk, Nat.sub_self, show n - k = (n - (k + 1)) + 1 by omega, List.replicate_succ, List.set_cons_zero]
  simp
/-- what one reading by the function value answers -/
def OneA {σ α : Type} (W' : World) (rb : Nat) (s : ByteArray) (res : Option ((α × σ) × List UInt8)) (val : α → Value) (z : Value → Prop) (Inv : World → σ → Prop) (InvB : World → Prop) (e : Ending) : Prop :=
  (∃ x st s', res = some ((x, st), s'.data.toList) ∧ s'.size ≤ s.size ∧ e = .returned (val x) ∧ Rdr W' rb s' false ∧ Inv W' st) ∨ (res = none ∧ ∃ v s', z v ∧ e = .returned v ∧ s'.size ≤ s.size ∧ Rdr W' rb s' true ∧ InvB W')
/-- what reading a list of numbers answers -/
def ListI {σ : Type} (w W' : World) (rb n : Nat) (s : ByteArray) (bad : Bool) (step : σ → List UInt8 → Option ((Int × σ) × List UInt8)) (st : σ) (Inv : World → σ → Prop) (InvB : World → Prop) (e : Ending) : Prop :=
  ((∃ xs st' s' la lc, ifG bad (rlist step n st) s = some ((xs, st'), s'.data.toList) ∧ s'.size ≤ s.size ∧ e = .returned (.slice la n lc) ∧ (la = none → lc = 0) ∧ W'.ownsRow w.heap.size 3 1 (.slice la n lc) n (xs.map (Value.int .i64)) ∧ Rdr W' rb s' false ∧ Inv W' st') ∨
   ((bad = true ∨ ifG bad (rlist step n st) s = none) ∧ e = .returned (.slice none 0 0) ∧ ∃ s', s'.size ≤ s.size ∧ Rdr W' rb s' true ∧ InvB W'))
set_option maxHeartbeats 2000000 in
set_option maxRecDepth 100000 in
theorem plistR_any {σ : Type} (step : σ → List UInt8 → Option ((Int × σ) × List UInt8)) (Inv : World → σ → Prop) (InvB : World → Prop) (Own : Nat → Prop) (rb n : Nat) (s : ByteArray) (bad : Bool) (st : σ) (w : World)
    (hcl : ∀ (W : World) (st : σ) (s : ByteArray) (bad : Bool), Inv W st → Rdr W rb s bad → s.size ≤ 60000 → Calls Try.prog 81 #[.pointer (some ⟨rb, 0, none⟩)] W fun e W' => OneA W' rb s (ifG bad (step st) s) (fun x : Int => .int .i64 x) (fun z => ∃ x, z = .int .i64 x) Inv InvB e ∧ Fr (fun j => j ≠ rb ∧ ¬ Own j) W W')
    (hinv : ∀ (W W' : World) (st : σ), Inv W st → (∀ j, Own j → W'.heap[j]? = W.heap[j]?) → Inv W' st) (hinvB : ∀ (W W' : World), InvB W → (∀ j, Own j → W'.heap[j]? = W.heap[j]?) → InvB W') (hIB : ∀ W st, Inv W st → InvB W) (hown : ∀ j, Own j → j < w.heap.size) (h : Rdr w rb s bad) (hi : Inv w st) (hs : s.size ≤ 60000) (hn : n ≤ 100000000) :
    Calls Try.prog 79 #[.pointer (some ⟨rb, 0, none⟩), .int .i64 (n : Int), .func (.func 81) #[.pointer (some ⟨rb, 0, none⟩)] #[]] w fun e W' =>
      ListI w W' rb n s bad step st Inv InvB e ∧ Fr (fun j => j ≠ rb ∧ ¬ Own j) w W' := by
  have hlt : rb < w.heap.size := (Array.getElem?_eq_some_iff.1 h).1
  have HH := (show Hid _ from And.intro hcl (And.intro hinv (And.intro hown (And.intro h hi))))
  have HB := (show Hid _ from And.intro hinvB hIB)
  clear hcl hinv hown h hi hinvB hIB
  by_cases h0 : n = 0
  · subst h0
    go_enter Try.func79, Try.ntmps79
    go_wp2_with fail
    go_ret
    refine ⟨?_, Fr.refl _ _⟩
    cases bad with
    | false => exact Or.inl ⟨[], st, s, none, 0, rfl, Nat.le_refl _, rfl, fun _ => rfl, World.ownsRow_nil _ _ _ _, HH.out.2.2.2.1, HH.out.2.2.2.2⟩
    | true => exact Or.inr ⟨Or.inl rfl, rfl, s, Nat.le_refl _, HH.out.2.2.2.1, HB.out.2 _ _ HH.out.2.2.2.2⟩
  · obtain ⟨i1, hi, hz0, hz1, hz2⟩ := info_parts infoInt
    have HI := (show Hid _ from And.intro hi (And.intro hz0 (And.intro hz1 hz2)))
    clear hi hz0 hz1 hz2
    have hn0 : ((n : Int) == 0) = false := by rw [beq_eq_false_iff_ne]; omega
    go_enter Try.func79, Try.ntmps79
    go_wp2_with (at_make; refine wpList_make_full _ rfl (.tmp 11) (.tmp 11) 47 rfl w.heap.size 3 i1 (.int .i64 0) 1 Try.underlying47 HI.out.1 HI.out.2.1 HI.out.2.2.1 .i64 .i64 n n n rfl rfl rfl rfl (by rw [HI.out.2.2.2]; omega) (by unfold maxLen; omega) (by simp) ?_; intro W1 hown1 hgrow1; have H1 := (show Hid _ from And.intro hown1 hgrow1); clear hown1 hgrow1)
    have HM : Hid (W1.ownsRow w.heap.size 3 1 (.slice (some ⟨w.heap.size, 0, none⟩) n n) n ((([] : List Int) ++ List.replicate (n - 0) 0).map (Value.int .i64)) ∧ Rdr W1 rb s bad ∧ Inv W1 st ∧ Fr (fun j => j ≠ rb ∧ ¬ Own j) w W1) := by
      obtain ⟨h1, g1⟩ := H1.out
      rw [show (Value.int IntKind.i64 0).cells = #[.int .i64 0] from rfl, toList_madeCells_one, Nat.mul_one] at h1
      refine ⟨by simpa using h1, HH.out.2.2.2.1.grown g1 (by simp), HH.out.2.1 w W1 st HH.out.2.2.2.2 (fun j hj => g1.block j (HH.out.2.2.1 j hj) (by simp)), Fr.of_grown g1 (fun k _ _ => by simp)⟩
    clear H1
    go_loopw [15] (fun iv wr => ∃ (k : Nat) (xs : List Int) (st2 : σ) (s2 : ByteArray), k ≤ n ∧ iv = .int .i64 k ∧ s2.size ≤ s.size ∧ Hid (xs.length = k) ∧ Hid (rlist step k st s.data.toList = some ((xs, st2), s2.data.toList) ∧ (0 < k → bad = false)) ∧ Hid (wr.ownsRow w.heap.size 3 1 (.slice (some ⟨w.heap.size, 0, none⟩) n n) n ((xs ++ List.replicate (n - k) 0).map (Value.int .i64)) ∧ Rdr wr rb s2 (if k = 0 then bad else false) ∧ Inv wr st2 ∧ Fr (fun j => j ≠ rb ∧ ¬ Own j) w wr)) (fun iv _ => n - (intOf iv).toNat)
    case atStart => exact ⟨0, [], st, s, Nat.zero_le _, rfl, Nat.le_refl _, rfl, ⟨rfl, (fun h => by omega)⟩, HM.out.1, HM.out.2.1, HM.out.2.2.1, HM.out.2.2.2⟩
    case round =>
      clear HM
      obtain ⟨k, xs, st2, s2, hk, rfl, hs2, HX, HL, HW⟩ := hrel
      by_cases hlt : k < n
      · have hlti : (k : Int) < (n : Int) := by omega
        have hc := HH.out.1 wr st2 s2 (if k = 0 then bad else false) HW.out.2.2.1 HW.out.2.1 (by omega)
        have HC := (show Hid _ from hc)
        clear hc
        go_wp2_with fail
        refine Calls.mono HC.out ?_
        rintro e W2 ⟨h2, f2⟩
        have hrow := f2.own HW.out.1 (fun q hq => by simp [Value.ownBlock] at hq; subst hq; exact ⟨by omega, fun ho => by have := HH.out.2.2.1 _ ho; omega⟩)
        have hf := HW.out.2.2.2.trans f2 (fun q _ hq => hq)
        rcases h2 with ⟨x, st3, s3, hres, hsz, rfl, hr, hinv3⟩ | ⟨hres, v, s3, ⟨x, rfl⟩, rfl, hsz, hr, hinv3⟩
        · have hst := hrow.stored k (.int .i64 x)
          rw [fill_set xs n k x HX.out hlt] at hst
          have hk1 := hrow.cellAt k (by omega)
          have hkx : ((xs ++ List.replicate (n - k) 0).map (Value.int .i64))[k]? = some (.int .i64 0) := by
            rw [List.getElem?_map, List.getElem?_append_right (by rw [HX.out]; exact Nat.le_refl _), HX.out, Nat.sub_self, List.getElem?_replicate, if_pos (by omega)]
            rfl
          rw [hkx] at hk1
          have hfz := hrow.frozenAt k
          have hrs := hr.grown hst.2 (by simp; omega)
          have hi3 := HH.out.2.1 W2 _ st3 hinv3 (fun j hj => hst.2.block j (by have := HH.out.2.2.1 j hj; have := HW.out.2.2.2.size; have := f2.size; omega) (by have := HH.out.2.2.1 j hj; simp; omega))
          have hff := hf.grown hst.2 (fun q hq _ => by simp; omega)
          obtain ⟨x1, x2⟩ := box_cells hrs
          have hstep : (if k = 0 then bad else false) = false ∧ step st2 s2.data.toList = some ((x, st3), s3.data.toList) := by
            generalize (if k = 0 then bad else false) = bb at hres
            cases bb with
            | true => cases hres
            | false => exact ⟨rfl, hres⟩
          have H2 := (show Hid _ from And.intro hstep (And.intro hst.1 (And.intro hrs (And.intro hi3 hff))))
          clear hstep hst hrs hi3 hff hres hr hinv3 hrow hf f2 hkx
          go_wp2_with fail
          refine ⟨⟨k + 1, xs ++ [x], st3, s3, by omega, by go_num, by omega, by show _ = _; rw [List.length_append, HX.out]; rfl, ⟨?_, fun _ => ?_⟩, H2.out.2.1, ?_, H2.out.2.2.2.1, H2.out.2.2.2.2⟩, by simp [intOf]; omega⟩
          · rw [rlist_snoc, HL.out.1]
            simp only
            rw [H2.out.1.2]
          · by_cases hk0 : k = 0
            · have := H2.out.1.1
              rwa [if_pos hk0] at this
            · exact HL.out.2 (by omega)
          · rw [if_neg (by omega)]
            exact H2.out.2.2.1
        · have hst := hrow.stored k (.int .i64 x)
          have hk1 := hrow.cellAt k (by omega)
          have hkx : ((xs ++ List.replicate (n - k) 0).map (Value.int .i64))[k]? = some (.int .i64 0) := by
            rw [List.getElem?_map, List.getElem?_append_right (by rw [HX.out]; exact Nat.le_refl _), HX.out, Nat.sub_self, List.getElem?_replicate, if_pos (by omega)]
            rfl
          rw [hkx] at hk1
          have hfz := hrow.frozenAt k
          have hrs := hr.grown hst.2 (by simp; omega)
          have hi3 := HB.out.1 W2 _ hinv3 (fun j hj => hst.2.block j (by have := HH.out.2.2.1 j hj; have := HW.out.2.2.2.size; have := f2.size; omega) (by have := HH.out.2.2.1 j hj; simp; omega))
          have hff := hf.grown hst.2 (fun q hq _ => by simp; omega)
          obtain ⟨x1, x2⟩ := box_cells hrs
          have hnone : ifG bad (rlist step n st) s = none := by
            unfold ifG
            cases hbad : bad with
            | true => rfl
            | false =>
              simp only [Bool.false_eq_true, if_false]
              have hstep : step st2 s2.data.toList = none := by
                rw [hbad] at hres
                simpa [ifG] using hres
              refine rlist_none step (k := k + 1) ?_ (by omega)
              rw [rlist_snoc, HL.out.1]
              simp only
              rw [hstep]
          have H2 := (show Hid _ from And.intro hnone (And.intro hrs (And.intro hi3 hff)))
          clear hnone hst hrs hi3 hff hres hr hinv3 hrow hf f2 hkx
          go_wp2_with fail
          go_ret
          exact ⟨Or.inr ⟨Or.inr H2.out.1, rfl, s3, by omega, H2.out.2.1, H2.out.2.2.1⟩, H2.out.2.2.2⟩
      · obtain rfl : k = n := by omega
        have hlti : ¬ (k : Int) < (k : Int) := by omega
        have HE : Hid (ifG bad (rlist step k st) s = some ((xs, st2), s2.data.toList)) := by
          show _ = _
          rw [HL.out.2 (by omega)]
          exact HL.out.1
        go_wp2_with fail
        go_ret
        refine ⟨Or.inl ⟨xs, st2, s2, some ⟨w.heap.size, 0, none⟩, k, HE.out, hs2, rfl, (fun h => by cases h), ?_, ?_, HW.out.2.2.1⟩, HW.out.2.2.2⟩
        · have := HW.out.1
          simpa using this
        · have := HW.out.2.1
          rwa [if_neg h0] at this
set_option maxHeartbeats 2000000 in
set_option maxRecDepth 100000 in
theorem plistS_any {σ : Type} (step : σ → List UInt8 → Option ((Int × σ) × List UInt8)) (Inv : World → σ → Prop) (InvB : World → Prop) (Own : Nat → Prop) (fb xb rb n : Nat) (s : ByteArray) (bad : Bool) (st : σ) (w : World)
    (hcl : ∀ (W : World) (st : σ) (s : ByteArray) (bad : Bool), Inv W st → Rdr W rb s bad → s.size ≤ 60000 → Calls Try.prog 80 #[.pointer (some ⟨fb, 0, none⟩), .pointer (some ⟨xb, 0, none⟩)] W fun e W' => OneA W' rb s (ifG bad (step st) s) (fun x : Int => .int .i64 x) (fun z => ∃ x, z = .int .i64 x) Inv InvB e ∧ Fr (fun j => j ≠ rb ∧ ¬ Own j) W W')
    (hinv : ∀ (W W' : World) (st : σ), Inv W st → (∀ j, Own j → W'.heap[j]? = W.heap[j]?) → Inv W' st) (hinvB : ∀ (W W' : World), InvB W → (∀ j, Own j → W'.heap[j]? = W.heap[j]?) → InvB W') (hIB : ∀ W st, Inv W st → InvB W) (hown : ∀ j, Own j → j < w.heap.size) (h : Rdr w rb s bad) (hi : Inv w st) (hs : s.size ≤ 60000) (hn : n ≤ 100000000) :
    Calls Try.prog 79 #[.pointer (some ⟨rb, 0, none⟩), .int .i64 (n : Int), .func (.func 80) #[] #[.pointer (some ⟨fb, 0, none⟩), .pointer (some ⟨xb, 0, none⟩)]] w fun e W' =>
      ListI w W' rb n s bad step st Inv InvB e ∧ Fr (fun j => j ≠ rb ∧ ¬ Own j) w W' := by
  have hlt : rb < w.heap.size := (Array.getElem?_eq_some_iff.1 h).1
  have HH := (show Hid _ from And.intro hcl (And.intro hinv (And.intro hown (And.intro h hi))))
  have HB := (show Hid _ from And.intro hinvB hIB)
  clear hcl hinv hown h hi hinvB hIB
  by_cases h0 : n = 0
  · subst h0
    go_enter Try.func79, Try.ntmps79
    go_wp2_with fail
    go_ret
    refine ⟨?_, Fr.refl _ _⟩
    cases bad with
    | false => exact Or.inl ⟨[], st, s, none, 0, rfl, Nat.le_refl _, rfl, fun _ => rfl, World.ownsRow_nil _ _ _ _, HH.out.2.2.2.1, HH.out.2.2.2.2⟩
    | true => exact Or.inr ⟨Or.inl rfl, rfl, s, Nat.le_refl _, HH.out.2.2.2.1, HB.out.2 _ _ HH.out.2.2.2.2⟩
  · obtain ⟨i1, hi, hz0, hz1, hz2⟩ := info_parts infoInt
    have HI := (show Hid _ from And.intro hi (And.intro hz0 (And.intro hz1 hz2)))
    clear hi hz0 hz1 hz2
    have hn0 : ((n : Int) == 0) = false := by rw [beq_eq_false_iff_ne]; omega
    go_enter Try.func79, Try.ntmps79
    go_wp2_with (at_make; refine wpList_make_full _ rfl (.tmp 11) (.tmp 11) 47 rfl w.heap.size 3 i1 (.int .i64 0) 1 Try.underlying47 HI.out.1 HI.out.2.1 HI.out.2.2.1 .i64 .i64 n n n rfl rfl rfl rfl (by rw [HI.out.2.2.2]; omega) (by unfold maxLen; omega) (by simp) ?_; intro W1 hown1 hgrow1; have H1 := (show Hid _ from And.intro hown1 hgrow1); clear hown1 hgrow1)
    have HM : Hid (W1.ownsRow w.heap.size 3 1 (.slice (some ⟨w.heap.size, 0, none⟩) n n) n ((([] : List Int) ++ List.replicate (n - 0) 0).map (Value.int .i64)) ∧ Rdr W1 rb s bad ∧ Inv W1 st ∧ Fr (fun j => j ≠ rb ∧ ¬ Own j) w W1) := by
      obtain ⟨h1, g1⟩ := H1.out
      rw [show (Value.int IntKind.i64 0).cells = #[.int .i64 0] from rfl, toList_madeCells_one, Nat.mul_one] at h1
      refine ⟨by simpa using h1, HH.out.2.2.2.1.grown g1 (by simp), HH.out.2.1 w W1 st HH.out.2.2.2.2 (fun j hj => g1.block j (HH.out.2.2.1 j hj) (by simp)), Fr.of_grown g1 (fun k _ _ => by simp)⟩
    clear H1
    go_loopw [15] (fun iv wr => ∃ (k : Nat) (xs : List Int) (st2 : σ) (s2 : ByteArray), k ≤ n ∧ iv = .int .i64 k ∧ s2.size ≤ s.size ∧ Hid (xs.length = k) ∧ Hid (rlist step k st s.data.toList = some ((xs, st2), s2.data.toList) ∧ (0 < k → bad = false)) ∧ Hid (wr.ownsRow w.heap.size 3 1 (.slice (some ⟨w.heap.size, 0, none⟩) n n) n ((xs ++ List.replicate (n - k) 0).map (Value.int .i64)) ∧ Rdr wr rb s2 (if k = 0 then bad else false) ∧ Inv wr st2 ∧ Fr (fun j => j ≠ rb ∧ ¬ Own j) w wr)) (fun iv _ => n - (intOf iv).toNat)
    case atStart => exact ⟨0, [], st, s, Nat.zero_le _, rfl, Nat.le_refl _, rfl, ⟨rfl, (fun h => by omega)⟩, HM.out.1, HM.out.2.1, HM.out.2.2.1, HM.out.2.2.2⟩
    case round =>
      clear HM
      obtain ⟨k, xs, st2, s2, hk, rfl, hs2, HX, HL, HW⟩ := hrel
      by_cases hlt : k < n
      · have hlti : (k : Int) < (n : Int) := by omega
        have hc := HH.out.1 wr st2 s2 (if k = 0 then bad else false) HW.out.2.2.1 HW.out.2.1 (by omega)
        have HC := (show Hid _ from hc)
        clear hc
        go_wp2_with fail
        refine Calls.mono HC.out ?_
        rintro e W2 ⟨h2, f2⟩
        have hrow := f2.own HW.out.1 (fun q hq => by simp [Value.ownBlock] at hq; subst hq; exact ⟨by omega, fun ho => by have := HH.out.2.2.1 _ ho; omega⟩)
        have hf := HW.out.2.2.2.trans f2 (fun q _ hq => hq)
        rcases h2 with ⟨x, st3, s3, hres, hsz, rfl, hr, hinv3⟩ | ⟨hres, v, s3, ⟨x, rfl⟩, rfl, hsz, hr, hinv3⟩
        · have hst := hrow.stored k (.int .i64 x)
          rw [fill_set xs n k x HX.out hlt] at hst
          have hk1 := hrow.cellAt k (by omega)
          have hkx : ((xs ++ List.replicate (n - k) 0).map (Value.int .i64))[k]? = some (.int .i64 0) := by
            rw [List.getElem?_map, List.getElem?_append_right (by rw [HX.out]; exact Nat.le_refl _), HX.out, Nat.sub_self, List.getElem?_replicate, if_pos (by omega)]
            rfl
          rw [hkx] at hk1
          have hfz := hrow.frozenAt k
          have hrs := hr.grown hst.2 (by simp; omega)
          have hi3 := HH.out.2.1 W2 _ st3 hinv3 (fun j hj => hst.2.block j (by have := HH.out.2.2.1 j hj; have := HW.out.2.2.2.size; have := f2.size; omega) (by have := HH.out.2.2.1 j hj; simp; omega))
          have hff := hf.grown hst.2 (fun q hq _ => by simp; omega)
          obtain ⟨x1, x2⟩ := box_cells hrs
          have hstep : (if k = 0 then bad else false) = false ∧ step st2 s2.data.toList = some ((x, st3), s3.data.toList) := by
            generalize (if k = 0 then bad else false) = bb at hres
            cases bb with
            | true => cases hres
            | false => exact ⟨rfl, hres⟩
          have H2 := (show Hid _ from And.intro hstep (And.intro hst.1 (And.intro hrs (And.intro hi3 hff))))
          clear hstep hst hrs hi3 hff hres hr hinv3 hrow hf f2 hkx
          go_wp2_with fail
          refine ⟨⟨k + 1, xs ++ [x], st3, s3, by omega, by go_num, by omega, by show _ = _; rw [List.length_append, HX.out]; rfl, ⟨?_, fun _ => ?_⟩, H2.out.2.1, ?_, H2.out.2.2.2.1, H2.out.2.2.2.2⟩, by simp [intOf]; omega⟩
          · rw [rlist_snoc, HL.out.1]
            simp only
            rw [H2.out.1.2]
          · by_cases hk0 : k = 0
            · have := H2.out.1.1
              rwa [if_pos hk0] at this
            · exact HL.out.2 (by omega)
          · rw [if_neg (by omega)]
            exact H2.out.2.2.1
        · have hst := hrow.stored k (.int .i64 x)
          have hk1 := hrow.cellAt k (by omega)
          have hkx : ((xs ++ List.replicate (n - k) 0).map (Value.int .i64))[k]? = some (.int .i64 0) := by
            rw [List.getElem?_map, List.getElem?_append_right (by rw [HX.out]; exact Nat.le_refl _), HX.out, Nat.sub_self, List.getElem?_replicate, if_pos (by omega)]
            rfl
          rw [hkx] at hk1
          have hfz := hrow.frozenAt k
          have hrs := hr.grown hst.2 (by simp; omega)
          have hi3 := HB.out.1 W2 _ hinv3 (fun j hj => hst.2.block j (by have := HH.out.2.2.1 j hj; have := HW.out.2.2.2.size; have := f2.size; omega) (by have := HH.out.2.2.1 j hj; simp; omega))
          have hff := hf.grown hst.2 (fun q hq _ => by simp; omega)
          obtain ⟨x1, x2⟩ := box_cells hrs
          have hnone : ifG bad (rlist step n st) s = none := by
            unfold ifG
            cases hbad : bad with
            | true => rfl
            | false =>
              simp only [Bool.false_eq_true, if_false]
              have hstep : step st2 s2.data.toList = none := by
                rw [hbad] at hres
                simpa [ifG] using hres
              refine rlist_none step (k := k + 1) ?_ (by omega)
              rw [rlist_snoc, HL.out.1]
              simp only
              rw [hstep]
          have H2 := (show Hid _ from And.intro hnone (And.intro hrs (And.intro hi3 hff)))
          clear hnone hst hrs hi3 hff hres hr hinv3 hrow hf f2 hkx
          go_wp2_with fail
          go_ret
          exact ⟨Or.inr ⟨Or.inr H2.out.1, rfl, s3, by omega, H2.out.2.1, H2.out.2.2.1⟩, H2.out.2.2.2⟩
      · obtain rfl : k = n := by omega
        have hlti : ¬ (k : Int) < (k : Int) := by omega
        have HE : Hid (ifG bad (rlist step k st) s = some ((xs, st2), s2.data.toList)) := by
          show _ = _
          rw [HL.out.2 (by omega)]
          exact HL.out.1
        go_wp2_with fail
        go_ret
        refine ⟨Or.inl ⟨xs, st2, s2, some ⟨w.heap.size, 0, none⟩, k, HE.out, hs2, rfl, (fun h => by cases h), ?_, ?_, HW.out.2.2.1⟩, HW.out.2.2.2⟩
        · have := HW.out.1
          simpa using this
        · have := HW.out.2.1
          rwa [if_neg h0] at this
end Go.Proofs.Ytmipbiligijcpaa
