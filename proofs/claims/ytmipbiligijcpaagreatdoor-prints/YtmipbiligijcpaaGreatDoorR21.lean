/- The document's edges are the program's. -/
import Derived.Test.YtmipbiligijcpaaGreatDoorR20
namespace Go.Proofs.YtmipbiligijcpaaGreatDoor
set_option linter.unusedVariables false
set_option linter.unusedSimpArgs false
open Go.RowKit Go.Proofs Go.Maps

/-- a node of the document's row and of the program's model: the same line -/
structure RelC (c : RC) (p : PN) : Prop where
  lab : c.n.lab = p.lab
  n : RelN { c.n with lab := emp } p.n
  wd : p.n.kind = 1 → ∃ w0 w1, p.ws = [w0, w1, c.n.a.word, c.n.sign, c.n.b.word]
structure RelL (cl : List RC) (pl : List PN) : Prop where
  len : cl.length = pl.length
  each : ∀ (j : Nat) (c : RC) (p : PN), cl[j]? = some c → pl[j]? = some p → RelC c p

def labD1 (cl : List RC) (j : Nat) : Nam := (labAt cl j).data.toList
theorem beq_data (a b : ByteArray) : (a.toList == b.toList) = decide (a.data.toList = b.data.toList) := by
  rw [ByteArray.toList_eq, ByteArray.toList_eq, Bool.eq_iff_iff]; simp
theorem emp_data (a : ByteArray) : a.toList.isEmpty = decide (a.data.toList = []) := by
  rw [ByteArray.toList_eq, Bool.eq_iff_iff]; simp
theorem dup_iff (cl : List RC) (i : Nat) (l : ByteArray) : ∀ n, dupTo cl i l n = true ↔ ∃ k, k < n ∧ k ≠ i ∧ labD1 cl k = l.data.toList
  | 0 => by simp [dupTo]
  | n + 1 => by
    rw [dupTo, Bool.or_eq_true, dup_iff cl i l n, beq_data]
    simp only [Bool.and_eq_true, decide_eq_true_eq]
    constructor
    · rintro (⟨k, h1, h2, h3⟩ | ⟨h1, h2⟩)
      · exact ⟨k, by omega, h2, h3⟩
      · exact ⟨n, by omega, h1, h2⟩
    · rintro ⟨k, h1, h2, h3⟩
      by_cases e : k = n
      · subst e; exact Or.inr ⟨h2, h3⟩
      · exact Or.inl ⟨k, by omega, h2, h3⟩
theorem hits_nil (cl : List RC) (g : ByteArray) : ∀ n, (∀ k, k < n → labD1 cl k ≠ g.data.toList) → hitsTo cl g n = []
  | 0, _ => rfl
  | n + 1, h => by
    rw [hitsTo, hits_nil cl g n (fun k hk => h k (by omega)), beq_data, show decide ((labAt cl n).data.toList = g.data.toList) = false from decide_eq_false (h n (by omega))]
    rfl
/-- no name stands twice ahead of n -/
def Dist (cl : List RC) (n : Nat) : Prop := ∀ i j, i < j → j < n → labD1 cl i ≠ [] → labD1 cl i ≠ labD1 cl j
theorem hits_one (cl : List RC) (g : ByteArray) (hg : g.data.toList ≠ []) : ∀ n, Dist cl n → ∀ k, k < n → labD1 cl k = g.data.toList → hitsTo cl g n = [(k : Int)]
  | 0, _, k, hk, _ => by omega
  | n + 1, hd, k, hk, he => by
    rw [hitsTo, beq_data]
    by_cases e : k = n
    · subst e
      rw [hits_nil cl g k (fun j hj e => hd j k hj (by omega) (by rw [e]; exact hg) (by rw [e, he]))]
      have : decide ((labAt cl k).data.toList = g.data.toList) = true := decide_eq_true he
      rw [this]; rfl
    · rw [hits_one cl g hg n (fun i j a b => hd i j a (by omega)) k (by omega) he]
      have hne : (labAt cl n).data.toList ≠ g.data.toList := by
        intro e2
        exact hd k n (by omega) (by omega) (by rw [he]; exact hg) (by rw [he]; exact e2.symm)
      rw [decide_eq_false hne]; rfl
def pairsTo (cl : List RC) : Nat → List (Nam × Nat)
  | 0 => []
  | k + 1 => pairsTo cl k ++ (if labD1 cl k = [] then [] else [(labD1 cl k, k)])
theorem mem_pairs (cl : List RC) (x : Nam) : ∀ n, x ∈ keysA (pairsTo cl n) ↔ ∃ k, k < n ∧ labD1 cl k ≠ [] ∧ labD1 cl k = x
  | 0 => by simp [pairsTo, keysA]
  | n + 1 => by
    have ih := mem_pairs cl x n
    unfold keysA at ih ⊢
    rw [pairsTo, List.map_append, List.mem_append, ih]
    constructor
    · rintro (⟨k, h1, h2⟩ | h)
      · exact ⟨k, by omega, h2⟩
      · split at h
        · simp at h
        · rename_i hne
          simp at h
          exact ⟨n, by omega, hne, h.symm⟩
    · rintro ⟨k, h1, h2, h3⟩
      by_cases e : k = n
      · subst e
        rw [if_neg h2]; exact Or.inr (by simp [h3])
      · exact Or.inl ⟨k, by omega, h2, h3⟩
theorem valA_snoc (ps : List (Nam × Nat)) (p : Nam × Nat) (v : Nam) : valA (ps ++ [p]) v = if p.1 = v then (p.2 : Int) else valA ps v := by
  unfold valA
  rw [List.reverse_append]
  simp only [List.reverse_cons, List.reverse_nil, List.nil_append, List.singleton_append, List.find?_cons]
  by_cases e : p.1 = v
  · simp [e]
  · have : (p.1 == v) = false := by simpa using e
    rw [this, if_neg e]
theorem val_pairs (cl : List RC) (x : Nam) (hx : x ≠ []) : ∀ n, Dist cl n → ∀ k, k < n → labD1 cl k = x → valA (pairsTo cl n) x = k
  | 0, _, k, hk, _ => by omega
  | n + 1, hd, k, hk, he => by
    rw [pairsTo]
    by_cases e : k = n
    · subst e
      rw [if_neg (by rw [he]; exact hx), valA_snoc, if_pos he]
    · have hne : labD1 cl n ≠ x := by
        intro e2
        exact hd k n (by omega) (by omega) (by rw [he]; exact hx) (by rw [he]; exact e2.symm)
      have ih := val_pairs cl x hx n (fun i j a b => hd i j a (by omega)) k (by omega) he
      split
      · rw [List.append_nil]; exact ih
      · rw [valA_snoc, if_neg hne]; exact ih
theorem val_lt (cl : List RC) (x : Nam) : ∀ n, 0 < n → valA (pairsTo cl n) x < (n : Int)
  | 0, h => by omega
  | n + 1, _ => by
    have h0 : valA (pairsTo cl n) x < (n : Int) + 1 := by
      rcases Nat.eq_zero_or_pos n with e | e
      · subst e; simp [pairsTo, valA]
      · have := val_lt cl x n e; omega
    rw [pairsTo]
    split
    · rw [List.append_nil]; exact_mod_cast h0
    · rw [valA_snoc]
      split
      · simp only; omega
      · exact_mod_cast h0
theorem labs_at {cl : List RC} {pl : List PN} (h : RelL cl pl) {k : Nat} (hk : k < cl.length) : (pl.map PN.lab)[k]? = some (labAt cl k) := by
  have hc := List.getElem?_eq_getElem hk
  have hp := List.getElem?_eq_getElem (l := pl) (i := k) (by have := h.len; omega)
  rw [List.getElem?_map, hp, labAt_eq hc, (h.each k _ _ hc hp).lab]; rfl
theorem plc_pairs {cl : List RC} {pl : List PN} (h : RelL cl pl) : ∀ k, k ≤ cl.length → Dist cl k → plc 0 [] ((pl.map PN.lab).take k) = some (pairsTo cl k)
  | 0, _, _ => by simp [plc, pairsTo]
  | k + 1, hk, hd => by
    rw [plc_step (plc_pairs h k (by omega) (fun i j a b => hd i j a (by omega))) (labs_at h (by omega)), emp_data]
    by_cases e : labD1 cl k = []
    · rw [show decide ((labAt cl k).data.toList = []) = true from decide_eq_true e]
      simp [pairsTo, e]
    · rw [show decide ((labAt cl k).data.toList = []) = false from decide_eq_false e]
      have hn : (labAt cl k).data.toList ∉ keysA (pairsTo cl k) := by
        rw [mem_pairs]
        rintro ⟨j, h1, h2, h3⟩
        exact hd j k h1 (by omega) h2 h3
      simp only [Bool.false_eq_true, if_false, hn]
      simp [pairsTo, e]; rfl
theorem plc_dist {cl : List RC} {pl : List PN} (h : RelL cl pl) : ∀ k, k ≤ cl.length → ∀ ps, plc 0 [] ((pl.map PN.lab).take k) = some ps → Dist cl k
  | 0, _, _, _ => fun i j _ hj => by omega
  | k + 1, hk, ps, hp => by
    have hlab := labs_at h (k := k) (by omega)
    cases hq : plc 0 [] ((pl.map PN.lab).take k) with
    | none =>
      have := plc_fall (labs := (pl.map PN.lab).take (k + 1)) (k := k) (by rw [List.take_take, Nat.min_eq_left (by omega)]; exact hq)
      rw [this] at hp; cases hp
    | some qs =>
      have hd := plc_dist h k (by omega) qs hq
      have he := plc_pairs h k (by omega) hd
      rw [plc_step he hlab, emp_data] at hp
      intro i j hij hj hne
      by_cases e : j = k
      · subst e
        intro e2
        have hk0 : labD1 cl j ≠ [] := by rw [← e2]; exact hne
        rw [show decide ((labAt cl j).data.toList = []) = false from decide_eq_false hk0] at hp
        have hin : (labAt cl j).data.toList ∈ keysA (pairsTo cl j) := (mem_pairs cl _ j).2 ⟨i, hij, hne, e2⟩
        simp only [Bool.false_eq_true, if_false, hin, if_true] at hp
        cases hp
      · exact hd i j hij (by omega) hne
theorem rlk_iff (cl : List RC) : rlk cl = true ↔ ∀ i c, cl[i]? = some c → rbad cl i c.n = false := by
  constructor
  · intro h i c hc
    cases hb : rbad cl i c.n with
    | false => rfl
    | true => rw [rlk_bad hc hb] at h; cases h
  · intro h
    have : ∀ k, k ≤ cl.length → rlkTo cl k = true := by
      intro k
      induction k with
      | zero => intro _; rfl
      | succ k ih =>
        intro hk
        rw [rlkTo, ih (by omega), List.getElem?_eq_getElem (by omega : k < cl.length)]
        simp [h k _ (List.getElem?_eq_getElem (by omega : k < cl.length))]
    exact this _ (Nat.le_refl _)
theorem falls_kind {m : RN} {n : SN} (h : RelN { m with lab := emp } n) : falls m = !(n.kind == 5 || n.kind == 6) := by
  have hd : m.does = doesOf n.kind := h.does
  have hk := h.kind
  unfold falls
  rw [hd, ByteArray.toList_eq]
  obtain ⟨k, hk1⟩ : ∃ k : Int, n.kind = k := ⟨_, rfl⟩
  rw [hk1] at hk ⊢
  have : k = 0 ∨ k = 1 ∨ k = 2 ∨ k = 3 ∨ k = 4 ∨ k = 5 ∨ k = 6 := by omega
  rcases this with rfl | rfl | rfl | rfl | rfl | rfl | rfl <;> decide
theorem goal_kind {m : RN} {n : SN} (h : RelN { m with lab := emp } n) : (!m.goal.toList.isEmpty) = jumps n.kind := by
  have hg : m.goal = n.goal := h.goal
  rw [emp_data, hg]
  unfold jumps
  by_cases hk : n.kind = 4 ∨ n.kind = 5
  · have hn := h.gnm hk
    have : n.goal.data.toList ≠ [] := by
      intro e
      have : n.goal.size = 0 := by have := Wm.len_data n.goal; rw [e] at this; exact this.symm
      rw [Wm.nm_none _ this] at hn; cases hn
    simp [this, hk]
  · have := h.gno (fun e => hk (Or.inl e)) (fun e => hk (Or.inr e))
    rw [this]
    have h4 : (n.kind == 4) = false := by simpa using fun e => hk (Or.inl e)
    have h5 : (n.kind == 5) = false := by simpa using fun e => hk (Or.inr e)
    rw [h4, h5]; rfl
theorem goal_ne {m : RN} {n : SN} (h : RelN { m with lab := emp } n) (hj : jumps n.kind = true) : m.goal.data.toList ≠ [] := by
  have := goal_kind h
  rw [hj, emp_data] at this
  simpa using this
theorem hitsN_empty {cl : List RC} {m : RN} (hne : m.goal.data.toList ≠ []) : (hitsN cl m cl.length).isEmpty = true ↔ ∀ k, k < cl.length → labD1 cl k ≠ m.goal.data.toList := by
  have he : hitsN cl m cl.length = hitsTo cl m.goal cl.length := by
    unfold hitsN; rw [emp_data, decide_eq_false hne]; rfl
  rw [he, List.isEmpty_iff]
  constructor
  · intro h k hk e
    have key : ∀ n, k < n → (k : Int) ∈ hitsTo cl m.goal n := by
      intro n
      induction n with
      | zero => intro h; omega
      | succ n ih =>
        intro hn
        rw [hitsTo, List.mem_append]
        by_cases e2 : k = n
        · subst e2
          rw [beq_data, show decide ((labAt cl k).data.toList = m.goal.data.toList) = true from decide_eq_true e]
          exact Or.inr (by simp)
        · exact Or.inl (ih (by omega))
    have := key cl.length hk
    rw [h] at this; simp at this
  · intro h; exact hits_nil cl m.goal _ h
theorem link_rlk {cl : List RC} {pl : List PN} (h : RelL cl pl) (h0 : 0 < cl.length) : linkOk (pl.map PN.nc) = rlk cl := by
  have hl := h.len
  unfold linkOk
  rw [nc_labs]
  by_cases hd : Dist cl cl.length
  · have hp := plc_pairs h cl.length (Nat.le_refl _) hd
    rw [List.take_of_length_le (by simp; omega)] at hp
    rw [hp]
    simp only
    have hnd : ∀ (i : Nat) (c : RC), cl[i]? = some c → (!c.n.lab.toList.isEmpty && dupTo cl i c.n.lab cl.length) = false := by
      intro i c hc
      rw [Bool.and_eq_false_iff]
      by_cases e : c.n.lab.data.toList = []
      · left; rw [emp_data, decide_eq_true e]; rfl
      · right
        cases hdu : dupTo cl i c.n.lab cl.length with
        | false => rfl
        | true =>
          obtain ⟨k, h1, h2, h3⟩ := (dup_iff cl i c.n.lab _).1 hdu
          have hi := (List.getElem?_eq_some_iff.1 hc).1
          have hli : labD1 cl i = c.n.lab.data.toList := by unfold labD1; rw [labAt_eq hc]
          rcases Nat.lt_or_gt_of_ne h2 with hlt | hgt
          · exact absurd (h3.trans hli.symm) (hd k i hlt hi (by rw [h3]; exact e))
          · exact absurd (hli.trans h3.symm) (hd i k hgt h1 (by rw [hli]; exact e))
    have hgo : ∀ (i : Nat) (c : RC) (p : PN), cl[i]? = some c → pl[i]? = some p → ((!c.n.goal.toList.isEmpty && (hitsN cl c.n cl.length).isEmpty) = false ↔ (!jumps p.n.kind || decide (p.n.goal.data.toList ∈ keysA (pairsTo cl cl.length))) = true) := by
      intro i c p hc hpp
      have hr := (h.each i c p hc hpp).n
      have hg : c.n.goal = p.n.goal := hr.goal
      rw [goal_kind hr]
      cases hj : jumps p.n.kind with
      | false => simp
      | true =>
        have hne := goal_ne hr hj
        simp only [Bool.true_and, Bool.not_true, Bool.false_or, decide_eq_true_eq]
        rw [mem_pairs, ← hg, ← Bool.not_eq_true, hitsN_empty hne]
        constructor
        · intro hx
          false_or_by_contra
          rename_i hcon
          exact hx (fun k hk e => hcon ⟨k, hk, by rw [e]; exact hne, e⟩)
        · rintro ⟨k, hk, _, e⟩ hx
          exact hx k hk e
    obtain ⟨c, hc⟩ : ∃ c, cl[cl.length - 1]? = some c := ⟨_, List.getElem?_eq_getElem (by omega)⟩
    obtain ⟨p, hpp⟩ : ∃ p, pl[cl.length - 1]? = some p := ⟨_, List.getElem?_eq_getElem (by omega)⟩
    have hlast : lastOk (pairsTo cl cl.length) (pl.map PN.nc) = !falls c.n := by
      unfold lastOk
      have hg : (pl.map PN.nc).getLast? = some p.nc := by
        rw [List.getLast?_eq_getElem?, List.length_map, List.getElem?_map, ← hl, hpp]; rfl
      rw [hg]
      simp only [List.length_map]
      have hr := (h.each _ c p hc hpp).n
      rw [falls_kind hr, Bool.not_not]
      have hv := val_lt cl p.n.goal.data.toList cl.length h0
      unfold edgK edg
      show (!(if p.n.kind == 4 then _ else if p.n.kind == 5 then _ else if p.n.kind == 6 then _ else _ : List Int).contains _) = _
      have hkk := hr.kind
      have hn1 : (((pl.length - 1 : Nat) : Int) + 1) = (pl.length : Int) := by omega
      by_cases k4 : p.n.kind = 4
      · simp [k4, hn1]
      · by_cases k5 : p.n.kind = 5
        · have : ¬ ((pl.length : Int) = valA (pairsTo cl cl.length) p.nc.n.goal.data.toList) := by
            intro e
            have e2 : valA (pairsTo cl cl.length) p.nc.n.goal.data.toList < (cl.length : Int) := hv
            omega
          simp [k5, this]
        · by_cases k6 : p.n.kind = 6
          · simp [k6]
          · have b4 : (p.n.kind == 4) = false := by simpa using k4
            have b5 : (p.n.kind == 5) = false := by simpa using k5
            have b6 : (p.n.kind == 6) = false := by simpa using k6
            rw [b4, b5, b6]
            simp [hn1]
    rw [hlast, Bool.eq_iff_iff, rlk_iff, Bool.and_eq_true]
    constructor
    · rintro ⟨h1, h2⟩ i d hdd
      obtain ⟨q, hq⟩ : ∃ q, pl[i]? = some q := ⟨_, List.getElem?_eq_getElem (by have := (List.getElem?_eq_some_iff.1 hdd).1; omega)⟩
      unfold rbad
      rw [hnd i d hdd, (hgo i d q hdd hq).2 ?_]
      · by_cases e : i + 1 = cl.length
        · have : i = cl.length - 1 := by omega
          subst this
          rw [hc] at hdd; cases hdd
          have : falls c.n = false := by simpa using h2
          rw [this]; rfl
        · simp [e]
      · have := List.all_eq_true.1 h1 q.nc (List.mem_map_of_mem (List.mem_of_getElem? hq))
        exact this
    · intro hx
      constructor
      · unfold goalsOk
        rw [List.all_eq_true]
        intro x hxm
        obtain ⟨q, hqm, rfl⟩ := List.mem_map.1 hxm
        obtain ⟨i, hi, rfl⟩ := List.getElem_of_mem hqm
        have hq := List.getElem?_eq_getElem hi
        obtain ⟨d, hdd⟩ : ∃ d, cl[i]? = some d := ⟨_, List.getElem?_eq_getElem (by omega)⟩
        refine (hgo i d _ hdd hq).1 ?_
        have := hx i d hdd
        unfold rbad at this
        simp only [Bool.or_eq_false_iff] at this
        exact this.1.2
      · have := hx _ c hc
        unfold rbad at this
        simp only [Bool.or_eq_false_iff] at this
        have h2 := this.2
        rw [show decide (cl.length - 1 + 1 = cl.length) = true from decide_eq_true (by omega), Bool.and_true] at h2
        rw [h2]; rfl
  · have hpn : plc 0 [] (pl.map PN.lab) = none := by
      cases hp : plc 0 [] (pl.map PN.lab) with
      | none => rfl
      | some ps =>
        exfalso
        refine hd (plc_dist h cl.length (Nat.le_refl _) ps ?_)
        rw [List.take_of_length_le (by simp; omega)]; exact hp
    rw [hpn]
    simp only
    unfold Dist at hd
    simp only [Classical.not_forall, Classical.not_not] at hd
    obtain ⟨i, j, hij, hj, hne, he⟩ := hd
    obtain ⟨c, hc⟩ : ∃ c, cl[i]? = some c := ⟨_, List.getElem?_eq_getElem (by omega)⟩
    symm
    refine rlk_bad hc ?_
    have hli : labD1 cl i = c.n.lab.data.toList := by unfold labD1; rw [labAt_eq hc]
    have hdu : dupTo cl i c.n.lab cl.length = true := (dup_iff cl i c.n.lab _).2 ⟨j, hj, by omega, by rw [← hli]; exact he.symm⟩
    unfold rbad
    rw [hdu, emp_data, decide_eq_false (by rw [← hli]; exact hne)]
    rfl
theorem redg_eq {cl : List RC} {pl : List PN} (h : RelL cl pl) (h0 : 0 < cl.length) (hr : rlk cl = true) {ps : List (Nam × Nat)} (hp : plc 0 [] (pl.map PN.lab) = some ps) (i : Nat) (c : RC) (p : PN) (hc : cl[i]? = some c) (hpp : pl[i]? = some p) : redg cl i c.n = edgK ps p.nc i := by
  have hl := h.len
  have hd : Dist cl cl.length := plc_dist h cl.length (Nat.le_refl _) ps (by rw [List.take_of_length_le (by simp; omega)]; exact hp)
  have hp2 := plc_pairs h cl.length (Nat.le_refl _) hd
  rw [List.take_of_length_le (by simp; omega), hp] at hp2
  cases hp2
  have hb := (rlk_iff cl).1 hr i c hc
  unfold rbad at hb
  simp only [Bool.or_eq_false_iff] at hb
  have hrel := (h.each i c p hc hpp).n
  have hg : c.n.goal = p.n.goal := hrel.goal
  have hgk := goal_kind hrel
  unfold redg
  rw [falls_kind hrel]
  unfold edgK edg
  show _ = (if p.n.kind == 4 then _ else if p.n.kind == 5 then _ else if p.n.kind == 6 then _ else _ : List Int)
  cases hj : jumps p.n.kind with
  | false =>
    have hem : c.n.goal.toList.isEmpty = true := by rw [hj] at hgk; simpa using hgk
    have hn : hitsN cl c.n cl.length = [] := by unfold hitsN; rw [hem]; rfl
    unfold jumps at hj
    rw [Bool.or_eq_false_iff] at hj
    rw [hn, hj.1, hj.2]
    cases p.n.kind == 6 <;> rfl
  | true =>
    have hne := goal_ne hrel hj
    have hem : c.n.goal.toList.isEmpty = false := by rw [emp_data, decide_eq_false hne]
    have hex : ∃ k, k < cl.length ∧ labD1 cl k = c.n.goal.data.toList := by
      have h2 := hb.1.2
      rw [hem] at h2
      simp only [Bool.not_false, Bool.true_and] at h2
      false_or_by_contra
      rename_i hcon
      have := (hitsN_empty (cl := cl) hne).2 (fun k hk e => hcon ⟨k, hk, e⟩)
      rw [this] at h2; cases h2
    obtain ⟨k, hk, he⟩ := hex
    have hh : hitsN cl c.n cl.length = [(k : Int)] := by
      unfold hitsN; rw [hem]; exact hits_one cl c.n.goal hne _ hd k hk he
    have hv : valA (pairsTo cl cl.length) p.nc.n.goal.data.toList = k := by
      show valA (pairsTo cl cl.length) p.n.goal.data.toList = k
      rw [← hg]
      exact val_pairs cl _ hne _ hd k hk he
    rw [hh, hv]
    unfold jumps at hj
    have hk45 : p.n.kind = 4 ∨ p.n.kind = 5 := by simpa using hj
    rcases hk45 with e | e
    · simp [e]
    · simp [e]
end Go.Proofs.YtmipbiligijcpaaGreatDoor
