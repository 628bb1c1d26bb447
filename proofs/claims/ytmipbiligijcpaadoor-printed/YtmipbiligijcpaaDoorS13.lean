/- Traces as they are read: numbers and steps at a slice. -/
import Derived.Test.YtmipbiligijcpaaDoorS11
namespace Go.Proofs.YtmipbiligijcpaaDoor
set_option linter.unusedVariables false
set_option linter.unusedSimpArgs false
open Go.RowKit Go.Proofs Go.Maps

/-- the slice reads as these steps -/
def StepsAt (w : World) (ao : Option Addr) (st : List (Nat × List Int)) : Prop := ∀ j s, st[j]? = some s → ∃ b o va vc, ao = some ⟨b, o, none⟩ ∧ w.cell? ⟨b, o + j * 2, none⟩ = some (.int .i64 s.1) ∧ w.cell? ⟨b, o + j * 2 + 1, none⟩ = some (.slice va s.2.length vc) ∧ IntsAt w va s.2
theorem StepsAt.below {w w' : World} {ao : Option Addr} {st : List (Nat × List Int)} (h : StepsAt w ao st) (hb : Below w.heap.size w w') : StepsAt w' ao st := by
  intro j s hj
  obtain ⟨b, o, va, vc, h1, h2, h3, h4⟩ := h j s hj
  exact ⟨b, o, va, vc, h1, cell_stays h2 hb, cell_stays h3 hb, h4.below hb⟩
theorem StepsAt.pre {w : World} {ao : Option Addr} {xs ys : List (Nat × List Int)} (h : StepsAt w ao ys) (hp : xs <+: ys) : StepsAt w ao xs := by
  obtain ⟨t, rfl⟩ := hp
  intro j x hj
  exact h j x (by rw [List.getElem?_append_left (List.getElem?_eq_some_iff.1 hj).1]; exact hj)
theorem ints_of_own {w : World} {B n : Nat} {v : Value} {xs : List Int} (h : w.ownsRow B 2 1 v n (xs.map (Value.int .i64))) (hn : xs.length = n) : ∃ ao cap, v = .slice ao n cap ∧ n ≤ cap ∧ IntsAt w ao xs := by
  rcases h.2 with ⟨rfl, e⟩ | ⟨g, cap, cur, hv, hb, hg, hc, hm, hs, ht⟩
  · refine ⟨none, 0, by rw [e], by omega, fun j x hj => ?_⟩
    have := (List.getElem?_eq_some_iff.1 hj).1
    omega
  · refine ⟨_, cap, hv, hc, fun j x hj => ⟨g, 0, rfl, ?_⟩⟩
    have hjl := (List.getElem?_eq_some_iff.1 hj).1
    have h1 : (xs.map (Value.int .i64))[j]? = some (.int .i64 x) := by simp [hj]
    rw [← ht, List.getElem?_take, if_pos (by omega)] at h1
    simp only [World.cell?, hg, Nat.zero_add]
    simpa using h1
theorem stCells_at : ∀ (l : List Stp) (j : Nat) (s : Stp), l[j]? = some s → (stCells l)[j * 2]? = some (.int .i64 s.1) ∧ (stCells l)[j * 2 + 1]? = some s.2.1
  | [], j, s, h => by simp at h
  | a :: l, 0, s, h => by simp at h; subst h; simp [stCells]
  | a :: l, j + 1, s, h => by
    have := stCells_at l j s (by simpa using h)
    have e : stCells (a :: l) = .int .i64 a.1 :: a.2.1 :: stCells l := by simp [stCells]
    rw [e, show (j + 1) * 2 = j * 2 + 1 + 1 by omega, show j * 2 + 1 + 1 + 1 = (j * 2 + 1) + 1 + 1 by omega]
    simpa using this
theorem steps_of {w w' : World} {nv : Nat} {r : Int × List Int × List (Nat × List Int)} {ov sv : Value} {stl : List Stp} (h : TrcIs w w' nv r ov sv stl) : ∃ ao cap, sv = .slice ao r.2.2.length cap ∧ r.2.2.length ≤ cap ∧ StepsAt w' ao r.2.2 := by
  obtain ⟨_, h2, h3, h4, _⟩ := h
  have hlen : r.2.2.length = stl.length := by rw [← h3]; simp [stOf]
  rcases h2.2 with ⟨rfl, e⟩ | ⟨g, cap, cur, hv, hb, hg, hc, hm, hs, ht⟩
  · refine ⟨none, 0, by rw [hlen, e], by omega, fun j x hj => ?_⟩
    have := (List.getElem?_eq_some_iff.1 hj).1
    omega
  · refine ⟨_, cap, by rw [hlen]; exact hv, by omega, fun j x hj => ?_⟩
    have hjl := (List.getElem?_eq_some_iff.1 hj).1
    obtain ⟨s, hs2⟩ : ∃ s, stl[j]? = some s := ⟨_, List.getElem?_eq_getElem (by omega)⟩
    have hx : x = (s.1, s.2.2) := by
      rw [← h3] at hj
      simp [stOf, hs2] at hj
      exact hj.symm
    subst hx
    obtain ⟨c1, c2⟩ := stCells_at stl j s hs2
    rw [← ht, List.getElem?_take, if_pos (by omega)] at c1 c2
    obtain ⟨a1, _, _⟩ := h4 s (List.mem_of_getElem? hs2)
    obtain ⟨va, vc, hva, _, hints⟩ := ints_of_own a1 rfl
    refine ⟨g, 0, va, vc, rfl, ?_, ?_, hints⟩
    · simp only [World.cell?, hg, Nat.zero_add]; simpa using c1
    · simp only [World.cell?, hg, Nat.zero_add]
      have : (cur.toList)[j * 2 + 1]? = some s.2.1 := c2
      rw [hva] at this
      simpa using this
end Go.Proofs.YtmipbiligijcpaaDoor
