/- A program that was read fits: its variables are there, its edges lead to nodes. -/
import Derived.Test.YtmipbiligijcpaaDoorS7
namespace Go.Proofs.YtmipbiligijcpaaDoor
set_option linter.unusedVariables false
set_option linter.unusedSimpArgs false
open Go.RowKit Go.Proofs Go.Maps

theorem vnum_lt (vs : List Nam) (v : Nam) : vnum vs v < (vadd vs v).length := by
  unfold vnum vadd
  split
  · rename_i h
    have := List.idxOf_lt_length_of_mem h
    omega
  · simp only [List.length_append, List.length_singleton]
    omega
theorem vadd_mono (vs : List Nam) (v : Nam) : vs.length ≤ (vadd vs v).length := by
  unfold vadd; split <;> simp
theorem opdA_mono (vs : List Nam) (s : ByteArray) : vs.length ≤ (opdA vs s).length := by
  unfold opdA; split
  · exact vadd_mono _ _
  · exact Nat.le_refl _
theorem opd_in (vs : List Nam) (s : ByteArray) : opdIn (opdA vs s).length (opd vs s) := by
  unfold opdIn opd opdA
  split
  · intro _; exact ⟨vnum_nn _ _, vnum_lt _ _⟩
  · intro h; cases h
theorem opdIn.mono {n m : Nat} {o : Opd} (h : opdIn n o) (hm : n ≤ m) : opdIn m o := fun e => ⟨(h e).1, by have := (h e).2; omega⟩
theorem NIn.mono {n m : Nat} {x : SN} (h : NIn n x) (hm : n ≤ m) : NIn m x := ⟨h.kind, fun e => ⟨(h.var e).1, by have := (h.var e).2; omega⟩, fun e => (h.a e).mono hm, fun e => (h.b e).mono hm⟩
theorem nin0 (n : Nat) : NIn n ⟨6, 0, 0, 0, o0, o0, emp⟩ := ⟨by simp, by simp, by simp, by simp⟩
theorem stm_in (vs : List Nam) (ws : List ByteArray) : vs.length ≤ (stm vs ws).2.2.length ∧ ((stm vs ws).2.1 = true → NIn (stm vs ws).2.2.length (stm vs ws).1) := by
  have ho : ∀ ws, vs.length ≤ (outS vs ws).2.2.length ∧ ((outS vs ws).2.1 = true → NIn (outS vs ws).2.2.length (outS vs ws).1) := by
    intro ws; unfold outS; split
    · rename_i w1
      exact ⟨opdA_mono _ _, fun _ => ⟨by simp, by simp, fun _ => opd_in _ _, by simp⟩⟩
    · exact ⟨Nat.le_refl _, fun h => by cases h⟩
  have hg : ∀ ws, vs.length ≤ (gotoS vs ws).2.2.length ∧ ((gotoS vs ws).2.1 = true → NIn (gotoS vs ws).2.2.length (gotoS vs ws).1) := by
    intro ws; unfold gotoS; split
    · exact ⟨Nat.le_refl _, fun _ => ⟨by simp, by simp, by simp, by simp⟩⟩
    · exact ⟨Nat.le_refl _, fun h => by cases h⟩
  have hi : ∀ ws, vs.length ≤ (ifS vs ws).2.2.length ∧ ((ifS vs ws).2.1 = true → NIn (ifS vs ws).2.2.length (ifS vs ws).1) := by
    intro ws; unfold ifS; split
    · rename_i _ w1 w2 w3 w4 w5
      split
      · exact ⟨Nat.le_trans (opdA_mono vs w1) (opdA_mono _ w3), fun _ => ⟨by simp, by simp, fun _ => (opd_in vs w1).mono (opdA_mono _ w3), fun _ => opd_in _ w3⟩⟩
      · exact ⟨Nat.le_refl _, fun h => by cases h⟩
    · exact ⟨Nat.le_refl _, fun h => by cases h⟩
  have ha : ∀ ws, vs.length ≤ (asgS vs ws).2.2.length ∧ ((asgS vs ws).2.1 = true → NIn (asgS vs ws).2.2.length (asgS vs ws).1) := by
    intro ws; unfold asgS; split
    · rename_i w0 w1 w2 q
      have h1 := vadd_mono vs w0.data.toList
      have h2 := vnum_lt vs w0.data.toList
      have h3 := vnum_nn vs w0.data.toList
      have h4 := opdA_mono (vadd vs w0.data.toList) w2
      split
      · split
        · split
          · exact ⟨h1, fun _ => ⟨by simp, fun _ => ⟨h3, h2⟩, by simp, by simp⟩⟩
          · exact ⟨by simp only; omega, fun _ => ⟨by simp, fun _ => ⟨h3, by simp only; omega⟩, fun _ => opd_in _ _, by simp⟩⟩
        · rename_i w3 w4
          have h5 := opdA_mono (opdA (vadd vs w0.data.toList) w2) w4
          exact ⟨by simp only; omega, fun _ => ⟨by simp, fun _ => ⟨h3, by simp only; omega⟩, fun _ => (opd_in _ _).mono h5, fun _ => opd_in _ _⟩⟩
        · exact ⟨by simp only; omega, fun h => by cases h⟩
      · exact ⟨Nat.le_refl _, fun h => by cases h⟩
    · exact ⟨Nat.le_refl _, fun h => by cases h⟩
  unfold stm
  split
  · exact ⟨Nat.le_refl _, fun h => by cases h⟩
  · split
    · exact ho _
    · split
      · exact hi _
      · split
        · exact hg _
        · split
          · exact ⟨Nat.le_refl _, fun _ => nin0 _⟩
          · exact ha _
theorem lin_in (vs : List Nam) (ws : List ByteArray) : vs.length ≤ (lin vs ws).2.2.2.2.length ∧ ((lin vs ws).2.2.2.1 = true → NIn (lin vs ws).2.2.2.2.length (lin vs ws).2.2.1) := by
  unfold lin
  split
  · exact ⟨Nat.le_refl _, fun h => by cases h⟩
  · split
    · split
      · split
        · exact ⟨Nat.le_refl _, fun h => by cases h⟩
        · exact stm_in _ _
      · exact ⟨Nat.le_refl _, fun h => by cases h⟩
    · exact stm_in _ _
theorem rdl_in : ∀ (L : List (List ByteArray)) (vs : List Nam) (acc pl : List PN) (vs' : List Nam), (∀ p ∈ acc, NIn vs.length p.n) → rdl vs acc L = some (pl, vs') → ∀ p ∈ pl, NIn vs'.length p.n := by
  intro L
  induction L with
  | nil => intro vs acc pl vs' ha h; simp [rdl] at h; rw [← h.1, ← h.2]; exact ha
  | cons ws r ih =>
    intro vs acc pl vs' ha h
    rw [rdl] at h
    obtain ⟨h1, h2⟩ := lin_in vs ws
    split at h
    · exact ih vs acc pl vs' ha h
    · split at h
      · rename_i hok
        refine ih _ _ pl vs' ?_ h
        intro p hp
        rcases List.mem_append.1 hp with hp | hp
        · exact (ha p hp).mono h1
        · simp at hp; subst hp; exact h2 hok
      · cases h
theorem plc_lt : ∀ (labs : List ByteArray) (i : Nat) (ps ps' : List (Nam × Nat)), plc i ps labs = some ps' → ∀ p ∈ ps', p ∈ ps ∨ p.2 < i + labs.length := by
  intro labs
  induction labs with
  | nil => intro i ps ps' h p hp; simp [plc] at h; subst h; exact Or.inl hp
  | cons x r ih =>
    intro i ps ps' h p hp
    rw [plc] at h
    split at h
    · rcases ih _ _ _ h p hp with h2 | h2
      · exact Or.inl h2
      · exact Or.inr (by simp; omega)
    · split at h
      · cases h
      · rcases ih _ _ _ h p hp with h2 | h2
        · rcases List.mem_append.1 h2 with h3 | h3
          · exact Or.inl h3
          · simp at h3; subst h3; exact Or.inr (by simp)
        · exact Or.inr (by simp; omega)
theorem valA_lt {ps : List (Nam × Nat)} {n : Nat} (h : ∀ p ∈ ps, p.2 < n) (h0 : 0 < n) (v : Nam) : ∃ t : Nat, valA ps v = (t : Int) ∧ t < n := by
  unfold valA
  split
  · rename_i p hp
    exact ⟨p.2, rfl, h p (by have := List.mem_of_find?_eq_some hp; simpa using this)⟩
  · exact ⟨0, rfl, h0⟩
theorem fit_of {s : ByteArray} {pl : List PN} {vs : List Nam} {ps : List (Nam × Nat)} (h : prs s = Pr.ok pl vs) (hp : plc 0 [] (pl.map PN.lab) = some ps) : Fit pl ps vs.length := by
  obtain ⟨_, h0, hok, hr, _⟩ := prs_ok h
  simp only [progOk, Bool.and_eq_true] at hok
  have hlk := hok.2
  unfold linkOk at hlk
  rw [nc_labs, hp] at hlk
  simp only [Bool.and_eq_true] at hlk
  have hlt : ∀ p ∈ ps, p.2 < pl.length := by
    intro p hps
    rcases plc_lt _ _ _ _ hp p hps with h1 | h1
    · cases h1
    · simpa using h1
  refine ⟨rdl_in _ [] [] pl vs (by simp) hr, ?_⟩
  intro j p vals hj hk6
  have hjl := (List.getElem?_eq_some_iff.1 hj).1
  obtain ⟨t, ht, htl⟩ := valA_lt hlt h0 p.n.goal.data.toList
  have hnext : p.n.kind ≠ 5 → j + 1 < pl.length := by
    intro hk5
    by_cases hlast : j + 1 = pl.length
    · exfalso
      have h2 := hlk.2
      unfold lastOk at h2
      have hgl : (pl.map PN.nc).getLast? = some p.nc := by
        rw [List.getLast?_eq_getElem?, List.length_map, List.getElem?_map, show pl.length - 1 = j by omega, hj]; rfl
      rw [hgl] at h2
      simp only [List.length_map, Bool.not_eq_true', ← hlast] at h2
      have : (edgK ps p.nc (j + 1 - 1)).contains ((j + 1 : Nat) : Int) = true := by
        unfold edgK edg
        have e1 : p.nc.n.kind = p.n.kind := rfl
        rw [e1]
        by_cases h4 : p.n.kind = 4
        · simp [h4]
        · simp [h4, hk5, hk6]
      rw [this] at h2
      cases h2
    · omega
  unfold edgK edg edgN
  have e1 : p.nc.n.kind = p.n.kind := rfl
  have e2 : p.nc.n.goal = p.n.goal := rfl
  rw [e1, e2, ht]
  by_cases h4 : p.n.kind = 4
  · simp only [h4, true_and]
    by_cases hs : tsSo p.n.test (opW vals p.n.a) (opW vals p.n.b) = false
    · rw [if_pos hs]
      exact ⟨j + 1, by simp, hnext (by omega)⟩
    · rw [if_neg hs]
      exact ⟨t, by simp, htl⟩
  · rw [if_neg (by simp [h4])]
    by_cases h5 : p.n.kind = 5
    · exact ⟨t, by simp [h5], htl⟩
    · exact ⟨j + 1, by simp [h4, h5, hk6], hnext h5⟩
end Go.Proofs.YtmipbiligijcpaaDoor
