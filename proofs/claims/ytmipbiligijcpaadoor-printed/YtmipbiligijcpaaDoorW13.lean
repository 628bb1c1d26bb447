/- The places of labels. -/
import Derived.Test.YtmipbiligijcpaaDoorE
import Derived.Deep.LoopGhost
namespace Go.Proofs.YtmipbiligijcpaaDoor
set_option linter.unusedVariables false
set_option linter.unusedSimpArgs false
open Go.RowKit Go.Proofs Go.Maps Go.WideMaps

/-- the table of a list of names with numbers -/
def tabA (ps : List (Nam × Nat)) : DataW Unit := ps.foldl (fun D p => D.put (keyL p.1) (.lit (.int .i64 (p.2 : Int)))) (.map [])
theorem tabA_snoc (ps : List (Nam × Nat)) (p : Nam × Nat) : tabA (ps ++ [p]) = (tabA ps).put (keyL p.1) (.lit (.int .i64 (p.2 : Int))) := by simp [tabA]
theorem snoc_ind {α : Type} {P : List α → Prop} (h0 : P []) (h1 : ∀ l a, P l → P (l ++ [a])) (l : List α) : P l := by
  suffices h : ∀ n (l : List α), l.length = n → P l from h _ l rfl
  intro n
  induction n with
  | zero => intro l h; rw [List.length_eq_zero_iff.1 h]; exact h0
  | succ n ih =>
    intro l h
    obtain ⟨r, a, rfl⟩ : ∃ r a, l = r ++ [a] := ⟨l.dropLast, l.getLast (by intro e; simp [e] at h), (List.dropLast_concat_getLast _).symm⟩
    exact h1 r a (ih r (by simpa using h))
theorem tidyA (ps : List (Nam × Nat)) : Tidy (tabA ps) := by
  induction ps using snoc_ind with
  | h0 => exact tidy_empty
  | h1 l a ih => rw [tabA_snoc]; exact ih.put (key_lit a.1) _
def keysA (ps : List (Nam × Nat)) : List Nam := ps.map Prod.fst
def valA (ps : List (Nam × Nat)) (v : Nam) : Int := match ps.reverse.find? (fun p => p.1 == v) with | some p => (p.2 : Int) | none => 0
theorem hasA (ps : List (Nam × Nat)) (v : Nam) : Maps.has (tabA ps) (keyL v) = decide (v ∈ keysA ps) := by
  induction ps using snoc_ind with
  | h0 => rfl
  | h1 l a ih =>
    rw [tabA_snoc]
    by_cases e : v = a.1
    · subst e
      rw [Maps.has_put_same (tidyA l).isMap (key_lit _)]; simp [keysA]
    · rw [Maps.has_put_other (fun e' => e (keyL_inj e')), ih, decide_eq_decide]; simp [keysA, e]
theorem atA (ps : List (Nam × Nat)) (v : Nam) : (tabA ps).atKey (keyL v) (.lit (.int .i64 0)) = .lit (.int .i64 (valA ps v)) := by
  induction ps using snoc_ind with
  | h0 => rfl
  | h1 l a ih =>
    rw [tabA_snoc]
    by_cases e : v = a.1
    · subst e
      rw [Maps.atKey_put_same (tidyA l).isMap (key_lit _)]; simp [valA]
    · rw [Maps.atKey_put_other (fun e' => e (keyL_inj e')), ih]
      have : (a.1 == v) = false := by simpa using fun e' => e e'.symm
      simp [valA, this]

/-- labels to places, from node i on: none: one stands twice -/
def plc (i : Nat) (ps : List (Nam × Nat)) : List ByteArray → Option (List (Nam × Nat))
  | [] => some ps
  | b :: r => if b.toList.isEmpty then plc (i + 1) ps r else if b.data.toList ∈ keysA ps then none else plc (i + 1) (ps ++ [(b.data.toList, i)]) r
theorem plc_mono (i : Nat) (ps : List (Nam × Nat)) (l : List ByteArray) (k : Nat) : plc i ps l = (plc i ps (l.take k)).bind (fun q => plc (i + (l.take k).length) q (l.drop k)) := by
  induction l generalizing i ps k with
  | nil => simp [plc]
  | cons b r ih =>
    cases k with
    | zero => simp [plc]
    | succ k =>
      rw [List.take_succ_cons, List.drop_succ_cons]
      simp only [plc]
      split
      · rw [ih]; simp only [List.length_cons]; congr 1; funext q; congr 1; omega
      · split
        · rfl
        · rw [ih]; simp only [List.length_cons]; congr 1; funext q; congr 1; omega

theorem plc_step {labs : List ByteArray} {k : Nat} {ps : List (Nam × Nat)} {b : ByteArray} (h : plc 0 [] (labs.take k) = some ps) (hb : labs[k]? = some b) :
    plc 0 [] (labs.take (k + 1)) = if b.toList.isEmpty then some ps else if b.data.toList ∈ keysA ps then none else some (ps ++ [(b.data.toList, k)]) := by
  have hl : k < labs.length := (List.getElem?_eq_some_iff.1 hb).1
  rw [plc_mono 0 [] (labs.take (k + 1)) k, List.take_take, Nat.min_eq_left (by omega), h]
  have e : (labs.take (k + 1)).drop k = [b] := by
    rw [List.drop_take, show k + 1 - k = 1 by omega, List.take_one, List.head?_drop, hb]; rfl
  have e2 : (labs.take k).length = k := by simp; omega
  simp only [Option.bind_some, e, e2, Nat.zero_add, plc]
theorem plc_fall {labs : List ByteArray} {k : Nat} (h : plc 0 [] (labs.take k) = none) : plc 0 [] labs = none := by
  rw [plc_mono 0 [] labs k, h]; rfl
theorem lab_at {nl : List NC} {k : Nat} {c : NC} (h : nl[k]? = some c) : (nl.map NC.lab)[k]? = some c.lab := by simp [h]

set_option maxHeartbeats 1000000 in
set_option maxRecDepth 100000 in
theorem placeLabels_any (g cap : Nat) (nl : List NC) (w : World) (hN : Nrow w g cap nl) (hlen : nl.length ≤ 60) (hz : ∀ c ∈ nl, c.lab.size ≤ 3000) :
    Calls Tryd.prog 29 #[.slice (some ⟨g, 0, none⟩) nl.length cap] w fun e w' =>
      ((∃ ps b, plc 0 [] (nl.map NC.lab) = some ps ∧ e = .returned (.tuple #[.map (some b), .bool true]) ∧ w.heap.size ≤ b ∧ w'.ownsMap Tryd.prog 9 (plainElem Tryd.prog 3) b 60 (tabA ps)) ∨
       (plc 0 [] (nl.map NC.lab) = none ∧ e = .returned (.tuple #[.map none, .bool false]))) ∧ Below w.heap.size w w' := by
  have hmm := @run_makeMap Tryd.prog
  have hg := hN.lt
  go_enter Tryd.func29, Tryd.ntmps29
  go_wp2
  go_loopw [12] (fun i wr => ∃ (k : Nat) (ps : List (Nam × Nat)), k ≤ nl.length ∧ i = .int .i64 k ∧ Hid (plc 0 [] ((nl.map NC.lab).take k) = some ps) ∧ wr.ownsMap Tryd.prog 9 (plainElem Tryd.prog 3) w.heap.size k (tabA ps) ∧ Below w.heap.size w wr) (fun i _ => nl.length - (intOf i).toNat)
  case atStart => exact ⟨0, [], Nat.zero_le _, rfl, rfl, World.ownsMap_made _ _ _ _, (Below.refl _ _).alloc (Nat.le_refl _) _⟩
  case round =>
    obtain ⟨k, ps, hk, rfl, HP, hown, hb⟩ := hrel
    by_cases hlt : k < nl.length
    · obtain ⟨c, hc⟩ : ∃ c, nl[k]? = some c := ⟨_, List.getElem?_eq_getElem hlt⟩
      have hN' := hN.of_block (hb.block g hg)
      obtain ⟨q0, q1, q2, q3, q4, q5, q6, q7, q8, q9, q10, q11, q12, q13⟩ := hN'.all k c hc
      have hzc : c.lab.size ≤ maxLen := by have := hz c (List.mem_of_getElem? hc); unfold maxLen; omega
      have hst := plc_step HP.out (lab_at hc)
      have HST : Hid (plc 0 [] ((nl.map NC.lab).take (k + 1)) = if c.lab.toList.isEmpty then some ps else if c.lab.data.toList ∈ keysA ps then none else some (ps ++ [(c.lab.data.toList, k)])) := hst
      clear hN' hst
      have hlti : (k : Int) < (nl.length : Int) := by omega
      have hbz := hb.size
      have hkey : keyOf Tryd.prog 9 (.string c.lab) = some (keyL c.lab.data.toList) := keyOf_string_mk Tryd.underlying9 hzc
      cases hem : c.lab.toList.isEmpty with
      | true =>
        go_wp2_with fail
        have e : plc 0 [] ((nl.map NC.lab).take (k + 1)) = some ps := by rw [HST.out, hem]; rfl
        exact ⟨⟨k + 1, ps, by omega, by go_num, e, (hown.alloc _).mono (by omega), hb.alloc hbz _⟩, by simp [intOf]; omega⟩
      | false =>
        by_cases hin : c.lab.data.toList ∈ keysA ps
        · have hh : Maps.has (tabA ps) (keyL c.lab.data.toList) = true := by rw [hasA]; simpa using hin
          go_wp2_with (first
            | (at_lookup; refine wpList_lookup_own_ok_int _ rfl _ _ 44 rfl 9 3 .i64 lawS Tryd.underlying44 Tryd.underlying3 (zeroI _) w.heap.size k (tabA ps) rfl (hown.alloc _) _ _ rfl hkey ?_; intro z hat hwc))
          go_ret2
          refine ⟨Or.inr ⟨plc_fall (k := k + 1) ?_, rfl⟩, hb.alloc hbz _⟩
          rw [HST.out, hem]; simp [hin]
        · have hh : Maps.has (tabA ps) (keyL c.lab.data.toList) = false := by rw [hasA]; simpa using hin
          go_wp2_with (first
            | (at_lookup; refine wpList_lookup_own_ok_int _ rfl _ _ 44 rfl 9 3 .i64 lawS Tryd.underlying44 Tryd.underlying3 (zeroI _) w.heap.size k (tabA ps) rfl (hown.alloc _) _ _ rfl hkey ?_; intro z hat hwc)
            | (at_mapUpdate; refine wpList_mapUpdate_own _ rfl _ _ _ 44 rfl 9 3 lawS Tryd.underlying44 _ w.heap.size k (tabA ps) rfl (hown.alloc _) (by unfold maxLen; omega) _ _ _ rfl rfl hkey _ [] (plainElem_int Tryd.underlying3 (WalkArith.wf_i64 (by omega))) ?_; intro w1 hown1 hgrow1))
          go_roundw
          case rel =>
            have e : plc 0 [] ((nl.map NC.lab).take (k + 1)) = some (ps ++ [(c.lab.data.toList, k)]) := by rw [HST.out, hem]; simp [hin]
            refine ⟨k + 1, _, by omega, by go_num, e, ?_, ?_⟩
            · rw [tabA_snoc]; exact hown1
            · exact (hb.alloc hbz _).grown hgrow1 (by simp; omega) (fun j hj => by cases hj; exact Nat.le_refl _)
          case measure => simp [intOf]; omega
    · obtain rfl : k = nl.length := by omega
      go_wp2
      go_ret2
      have e := HP.out
      rw [List.take_of_length_le (by simp)] at e
      exact ⟨Or.inl ⟨ps, w.heap.size, e, rfl, Nat.le_refl _, hown.mono (by omega)⟩, hb⟩
end Go.Proofs.YtmipbiligijcpaaDoor
