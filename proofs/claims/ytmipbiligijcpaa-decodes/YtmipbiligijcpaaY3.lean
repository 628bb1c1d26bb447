/- The law's lent: nodes of their own memory. -/
import Derived.Test.YtmipbiligijcpaaY1
namespace Go.Proofs.Ytmipbiligijcpaa
set_option linter.unusedVariables false
set_option linter.unusedSimpArgs false
open Go.RowKit Go.Proofs Go.Maps

theorem infoNd : (Try.prog.info? 50).map (fun i => (i.zero, i.size, i.bytes)) = some (some (.agg #[.slice none 0 0, .slice none 0 0, .bool false, .int .i64 0, .slice none 0 0]), 5, 88) := by kernel_rfl
theorem infoVl : (Try.prog.info? 62).map (fun i => (i.zero, i.size, i.bytes)) = some (some (.agg #[.int .i64 0, .int .i64 0, .int .i64 0, .bool false, .int .i64 0, .int .i64 0]), 6, 48) := by kernel_rfl
def vCells (v : Vl) : List Value := [.int .i64 v.kind, .int .i64 v.lo, .int .i64 v.hi, .bool v.early, .int .i64 v.first, .int .i64 v.rank]
def vRow (vs : List Vl) : List Value := vs.flatMap vCells
theorem vRow_len : ∀ (vs : List Vl), (vRow vs).length = vs.length * 6
  | [] => rfl
  | v :: r => by
    have := vRow_len r
    simp only [vRow, List.flatMap_cons, List.length_append, List.length_cons] at this ⊢
    simp [vCells] at this ⊢
    omega
theorem vRow_at : ∀ (vs : List Vl) (j : Nat) (v : Vl), vs[j]? = some v → ∀ i x, (vCells v)[i]? = some x → (vRow vs)[j * 6 + i]? = some x
  | [], j, v, h, i, x, hx => by simp at h
  | a :: r, 0, v, h, i, x, hx => by
    simp at h
    subst h
    have hi := (List.getElem?_eq_some_iff.1 hx).1
    simp only [vRow, List.flatMap_cons, Nat.zero_mul, Nat.zero_add]
    rw [List.getElem?_append_left hi]
    exact hx
  | a :: r, j + 1, v, h, i, x, hx => by
    have := vRow_at r j v (by simpa using h) i x hx
    simp only [vRow, List.flatMap_cons] at this ⊢
    rw [List.getElem?_append_right (by simp [vCells]; omega)]
    rw [← this]
    congr 1
    simp [vCells]
    omega
theorem vRow_inv : ∀ (vs : List Vl) (j : Nat) (x : Value), (vRow vs)[j]? = some x → ∃ v i, vs[j / 6]? = some v ∧ (vCells v)[j % 6]? = some x ∧ i = j % 6
  | [], j, x, h => by simp [vRow] at h
  | a :: r, j, x, h => by
    by_cases hj : j < 6
    · refine ⟨a, j % 6, by rw [Nat.div_eq_of_lt hj]; rfl, ?_, rfl⟩
      rw [Nat.mod_eq_of_lt hj]
      simp only [vRow, List.flatMap_cons] at h
      rw [List.getElem?_append_left (by simp [vCells]; omega)] at h
      exact h
    · simp only [vRow, List.flatMap_cons] at h
      rw [List.getElem?_append_right (by simp [vCells]; omega)] at h
      obtain ⟨v, i, h1, h2, h3⟩ := vRow_inv r (j - 6) x (by simpa [vRow, vCells] using h)
      refine ⟨v, j % 6, ?_, ?_, rfl⟩
      · rw [show j / 6 = (j - 6) / 6 + 1 by omega]; simpa using h1
      · rw [show j % 6 = (j - 6) % 6 by omega]; exact h2
theorem vRow_one {vs : List Vl} : ∀ u ∈ vRow vs, u.oneCell' = true := by
  intro u hu
  simp [vRow, vCells] at hu
  obtain ⟨v, _, h⟩ := hu
  rcases h with rfl | rfl | rfl | rfl | rfl | rfl <;> rfl
theorem news_vals {w : World} {ad : Addr} {vs : List Vl} (h : ValsAt w (some ad) vs) : ∀ (j : Nat) (u : Value), (vRow vs)[j]? = some u → w.cell? (ad.add j) = some u := by
  intro j u hj
  obtain ⟨v, i, h1, h2, _⟩ := vRow_inv vs j u hj
  obtain ⟨b, o, e, c0, c1, c2, c3, c4, c5⟩ := h _ v h1
  cases e
  rw [Addr.add_lit]
  have e6 : o + j = o + j / 6 * 6 + j % 6 := by omega
  rw [e6]
  have h6 : j % 6 < 6 := Nat.mod_lt _ (by omega)
  generalize j % 6 = m at h2 h6 ⊢
  match m, h6, h2 with
  | 0, _, h2 => simp [vCells] at h2; subst h2; exact c0
  | 1, _, h2 => simp [vCells] at h2; subst h2; exact c1
  | 2, _, h2 => simp [vCells] at h2; subst h2; exact c2
  | 3, _, h2 => simp [vCells] at h2; subst h2; exact c3
  | 4, _, h2 => simp [vCells] at h2; subst h2; exact c4
  | 5, _, h2 => simp [vCells] at h2; subst h2; exact c5
theorem vals_own {w : World} {B : Nat} {a : Option Addr} {c n : Nat} {vs : List Vl} (h : w.ownsRow B 62 6 (.slice a n c) vs.length (vRow vs)) : ValsAt w a vs := by
  intro j v hj
  have hjl := (List.getElem?_eq_some_iff.1 hj).1
  rcases h.2 with ⟨_, e⟩ | ⟨g, cap, cur, hv, _⟩
  · omega
  · simp at hv
    obtain ⟨rfl, rfl, rfl⟩ := hv
    have hc := h.cells (g := g) rfl
    have key : ∀ i x, (vCells v)[i]? = some x → w.cell? ⟨g, 0 + (j * 6 + i), none⟩ = some x := by
      intro i x hx
      have := hc _ _ (vRow_at vs j v hj i x hx)
      rwa [Addr.add_lit] at this
    refine ⟨g, 0, rfl, ?_, ?_, ?_, ?_, ?_, ?_⟩
    · simpa using key 0 _ rfl
    · simpa [Nat.add_assoc] using key 1 _ rfl
    · simpa [Nat.add_assoc] using key 2 _ rfl
    · simpa [Nat.add_assoc] using key 3 _ rfl
    · simpa [Nat.add_assoc] using key 4 _ rfl
    · simpa [Nat.add_assoc] using key 5 _ rfl
theorem wpAppV {ops : Array Oper} {rest : List Oper} {o : Oper} {a : Act} {Q : Exit → Act → World → Prop} {w : World} (hgd : o.guard = none) (s x : Operand)
    (ho : o.op = .call { callee := .builtin .append, args := #[s, x], argTypes := #[48, 48] })
    (B : Nat) (hs : a.eval s = .slice none 0 0)
    (xa : Option Addr) (cap : Nat) (m : List Vl) (hx : a.eval x = .slice xa m.length cap) (hnil : xa = none → cap = 0) (hm : ValsAt w xa m)
    (hlen : m.length * 48 ≤ 140737488355328) (hB : B ≤ w.heap.size)
    (h : ∀ a' c' w', w'.ownsRow B 62 6 (.slice a' m.length c') m.length (vRow m) → w.grownBy w' none → (a' = none → c' = 0) → wpList Try.prog ops Q rest (a.put o.dst (.slice a' m.length c')) w') :
    wpList Try.prog ops Q (o :: rest) a w := by
  obtain ⟨i0, hi, hz0, hz1, hz2⟩ := info_parts infoVl
  cases xa with
  | none =>
    have hc := hnil rfl
    subst hc
    have hm0 : m = [] := by
      cases m with
      | nil => rfl
      | cons y r => obtain ⟨b, o, e, _⟩ := hm 0 y rfl; cases e
    subst hm0
    refine wpList_append_own_none hgd s x 48 ho B 62 i0 6 Try.underlying48 hi (.slice none 0 0) 0 [] hs (World.ownsRow_nil _ _ _ _) hx ?_
    exact h none 0 w (World.ownsRow_nil _ _ _ _) (World.grownBy.refl _ _) (fun _ => rfl)
  | some ad =>
    refine wpList_append_own w hgd s x 48 ho B 62 i0 _ 6 48 Try.underlying48 hi hz0 hz1 hz2 rfl (by decide) (.slice none 0 0) 0 [] hs (World.ownsRow_nil _ _ _ _) ad m.length cap (vRow m) hx (vRow_len m) (news_vals hm) vRow_one (by simp only [maxLen]; omega) (by omega) hB ?_
    intro v2 W2 o2 g2 hnl
    rw [Nat.zero_add, List.nil_append] at o2
    obtain ⟨a2, c2, rfl⟩ := sl_of_own o2
    refine h a2 c2 W2 o2 g2 (fun e => ?_)
    subst e
    rcases o2.2 with ⟨hv, _⟩ | ⟨g, cp, cur, hv, _⟩
    · simp at hv; exact hv.2
    · simp at hv
theorem wpAppJ {ops : Array Oper} {rest : List Oper} {o : Oper} {a : Act} {Q : Exit → Act → World → Prop} {w : World} (hgd : o.guard = none) (s x : Operand)
    (ho : o.op = .call { callee := .builtin .append, args := #[s, x], argTypes := #[47, 47] })
    (B : Nat) (hs : a.eval s = .slice none 0 0)
    (xa : Option Addr) (cap : Nat) (m : List Int) (hx : a.eval x = .slice xa m.length cap) (hnil : xa = none → cap = 0) (hm : IntsAt w xa m)
    (hlen : m.length * 8 ≤ 140737488355328) (hB : B ≤ w.heap.size)
    (h : ∀ a' c' w', w'.ownsRow B 3 1 (.slice a' m.length c') m.length (m.map (Value.int .i64)) → w.grownBy w' none → (a' = none → c' = 0) → wpList Try.prog ops Q rest (a.put o.dst (.slice a' m.length c')) w') :
    wpList Try.prog ops Q (o :: rest) a w := by
  refine wpAppI hgd s x ho B (.slice none 0 0) [] hs (World.ownsRow_nil _ _ _ _) xa cap m hx hnil hm (by simpa using hlen) hB ?_
  intro a2 c2 w2 o2 g2
  simp only [List.length_nil, Nat.zero_add, List.nil_append] at o2 ⊢
  refine h a2 c2 w2 o2 g2 (fun e => ?_)
  subst e
  rcases o2.2 with ⟨hv, _⟩ | ⟨g, cp, cur, hv, _⟩
  · simp at hv; exact hv.2
  · simp at hv
end Go.Proofs.Ytmipbiligijcpaa
