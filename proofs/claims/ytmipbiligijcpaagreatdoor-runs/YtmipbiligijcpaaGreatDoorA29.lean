/- A part of the proof: contracts of functions of the program. -/
import Derived.Test.YtmipbiligijcpaaGreatDoorA28
import Derived.Deep.RegionLaw
namespace Go.Proofs.YtmipbiligijcpaaGreatDoor
set_option linter.unusedVariables false
set_option linter.unusedSimpArgs false
open Go.RowKit Go.Proofs Go.Maps

/-- a node of the document's row and of the program's model: the same line -/
structure RelC (c : RC) (p : PN) : Prop where
  lab : c.n.lab = p.lab
  n : RelN { c.n with lab := emp } p.n
  wd : p.n.kind = 1 → ∃ w0 w1, p.ws = [w0, w1, c.n.a.word, c.n.sign, c.n.b.word]
structure RelL (cl : List RC) (pl : List PN) : Prop where
  len : cl.length = pl.length
  each : ∀ (j : Nat) (c : RC) (p : PN), cl[j]? = some c → pl[j]? = some p → RelC c p

def labD1 (cl : List RC) (j : Nat) : Nam := (labAt cl j).data.toList
theorem beq_data (a b : ByteArray) : (a.toList == b.toList) = decide (a.data.toList = b.data.toList) := by
  rw [ByteArray.toList_eq, ByteArray.toList_eq, Bool.eq_iff_iff]; simp
theorem emp_data (a : ByteArray) : a.toList.isEmpty = decide (a.data.toList = []) := by
  rw [ByteArray.toList_eq, Bool.eq_iff_iff]; simp
theorem dup_iff (cl : List RC) (i : Nat) (l : ByteArray) : ∀ n, dupTo cl i l n = true ↔ ∃ k, k < n ∧ k ≠ i ∧ labD1 cl k = l.data.toList
  | 0 => by simp [dupTo]
  | n + 1 => by
    rw [dupTo, Bool.or_eq_true, dup_iff cl i l n, beq_data]
    simp only [Bool.and_eq_true, decide_eq_true_eq]
    constructor
    · rintro (⟨k, h1, h2, h3⟩ | ⟨h1, h2⟩)
      · exact ⟨k, by omega, h2, h3⟩
      · exact ⟨n, by omega, h1, h2⟩
    · rintro ⟨k, h1, h2, h3⟩
      by_cases e : k = n
      · subst e; exact Or.inr ⟨h2, h3⟩
      · exact Or.inl ⟨k, by omega, h2, h3⟩
theorem hits_nil (cl : List RC) (g : ByteArray) : ∀ n, (∀ k, k < n → labD1 cl k ≠ g.data.toList) → hitsTo cl g n = []
  | 0, _ => rfl
  | n + 1, h => by
    rw [hitsTo, hits_nil cl g n (fun k hk => h k (by omega)), beq_data, show decide ((labAt cl n).data.toList = g.data.toList) = false from decide_eq_false (h n (by omega))]
    rfl
/-- no name stands twice ahead of n -/
def Dist (cl : List RC) (n : Nat) : Prop := ∀ i j, i < j → j < n → labD1 cl i ≠ [] → labD1 cl i ≠ labD1 cl j
theorem hits_one (cl : List RC) (g : ByteArray) (hg : g.data.toList ≠ []) : ∀ n, Dist cl n → ∀ k, k < n → labD1 cl k = g.data.toList → hitsTo cl g n = [(k : Int)]
  | 0, _, k, hk, _ => by omega
  | n + 1, hd, k, hk, he => by
    rw [hitsTo, beq_data]
    by_cases e : k = n
    · subst e
      rw [hits_nil cl g k (fun j hj e => hd j k hj (by omega) (by rw [e]; exact hg) (by rw [e, he]))]
      have : decide ((labAt cl k).data.toList = g.data.toList) = true := decide_eq_true he
      rw [this]; rfl
    · rw [hits_one cl g hg n (fun i j a b => hd i j a (by omega)) k (by omega) he]
      have hne : (labAt cl n).data.toList ≠ g.data.toList := by
        intro e2
        exact hd k n (by omega) (by omega) (by rw [he]; exact hg) (by rw [he]; exact e2.symm)
      rw [decide_eq_false hne]; rfl
def pairsTo (cl : List RC) : Nat → List (Nam × Nat)
  | 0 => []
  | k + 1 => pairsTo cl k ++ (if labD1 cl k = [] then [] else [(labD1 cl k, k)])
theorem mem_pairs (cl : List RC) (x : Nam) : ∀ n, x ∈ keysA (pairsTo cl n) ↔ ∃ k, k < n ∧ labD1 cl k ≠ [] ∧ labD1 cl k = x
  | 0 => by simp [pairsTo, keysA]
  | n + 1 => by
    have ih := mem_pairs cl x n
    unfold keysA at ih ⊢
    rw [pairsTo, List.map_append, List.mem_append, ih]
    constructor
    · rintro (⟨k, h1, h2⟩ | h)
      · exact ⟨k, by omega, h2⟩
      · split at h
        · simp at h
        · rename_i hne
          simp at h
          exact ⟨n, by omega, hne, h.symm⟩
    · rintro ⟨k, h1, h2, h3⟩
      by_cases e : k = n
      · subst e
        rw [if_neg h2]; exact Or.inr (by simp [h3])
      · exact Or.inl ⟨k, by omega, h2, h3⟩
theorem valA_snoc (ps : List (Nam × Nat)) (p : Nam × Nat) (v : Nam) : valA (ps ++ [p]) v = if p.1 = v then (p.2 : Int) else valA ps v := by
  unfold valA
  rw [List.reverse_append]
  simp only [List.reverse_cons, List.reverse_nil, List.nil_append, List.singleton_append, List.find?_cons]
  by_cases e : p.1 = v
  · simp [e]
  · have : (p.1 == v) = false := by simpa using e
    rw [this, if_neg e]
theorem val_pairs (cl : List RC) (x : Nam) (hx : x ≠ []) : ∀ n, Dist cl n → ∀ k, k < n → labD1 cl k = x → valA (pairsTo cl n) x = k
  | 0, _, k, hk, _ => by omega
  | n + 1, hd, k, hk, he => by
    rw [pairsTo]
    by_cases e : k = n
    · subst e
      rw [if_neg (by rw [he]; exact hx), valA_snoc, if_pos he]
    · have hne : labD1 cl n ≠ x := by
        intro e2
        exact hd k n (by omega) (by omega) (by rw [he]; exact hx) (by rw [he]; exact e2.symm)
      have ih := val_pairs cl x hx n (fun i j a b => hd i j a (by omega)) k (by omega) he
      split
      · rw [List.append_nil]; exact ih
      · rw [valA_snoc, if_neg hne]; exact ih
theorem val_lt (cl : List RC) (x : Nam) : ∀ n, 0 < n → valA (pairsTo cl n) x < (n : Int)
  | 0, h => by omega
  | n + 1, _ => by
    have h0 : valA (pairsTo cl n) x < (n : Int) + 1 := by
      rcases Nat.eq_zero_or_pos n with e | e
      · subst e; simp [pairsTo, valA]
      · have := val_lt cl x n e; omega
    rw [pairsTo]
    split
    · rw [List.append_nil]; exact_mod_cast h0
    · rw [valA_snoc]
      split
      · simp only; omega
      · exact_mod_cast h0
theorem labs_at {cl : List RC} {pl : List PN} (h : RelL cl pl) {k : Nat} (hk : k < cl.length) : (pl.map PN.lab)[k]? = some (labAt cl k) := by
  have hc := List.getElem?_eq_getElem hk
  have hp := List.getElem?_eq_getElem (l := pl) (i := k) (by have := h.len; omega)
  rw [List.getElem?_map, hp, labAt_eq hc, (h.each k _ _ hc hp).lab]; rfl
theorem plc_pairs {cl : List RC} {pl : List PN} (h : RelL cl pl) : ∀ k, k ≤ cl.length → Dist cl k → plc 0 [] ((pl.map PN.lab).take k) = some (pairsTo cl k)
  | 0, _, _ => by simp [plc, pairsTo]
  | k + 1, hk, hd => by
    rw [plc_step (plc_pairs h k (by omega) (fun i j a b => hd i j a (by omega))) (labs_at h (by omega)), emp_data]
    by_cases e : labD1 cl k = []
    · rw [show decide ((labAt cl k).data.toList = []) = true from decide_eq_true e]
      simp [pairsTo, e]
    · rw [show decide ((labAt cl k).data.toList = []) = false from decide_eq_false e]
      have hn : (labAt cl k).data.toList ∉ keysA (pairsTo cl k) := by
        rw [mem_pairs]
        rintro ⟨j, h1, h2, h3⟩
        exact hd j k h1 (by omega) h2 h3
      simp only [Bool.false_eq_true, if_false, hn]
      simp [pairsTo, e]; rfl
theorem plc_dist {cl : List RC} {pl : List PN} (h : RelL cl pl) : ∀ k, k ≤ cl.length → ∀ ps, plc 0 [] ((pl.map PN.lab).take k) = some ps → Dist cl k
  | 0, _, _, _ => fun i j _ hj => by omega
  | k + 1, hk, ps, hp => by
    have hlab := labs_at h (k := k) (by omega)
    cases hq : plc 0 [] ((pl.map PN.lab).take k) with
    | none =>
      have := plc_fall (labs := (pl.map PN.lab).take (k + 1)) (k := k) (by rw [List.take_take, Nat.min_eq_left (by omega)]; exact hq)
      rw [this] at hp; cases hp
    | some qs =>
      have hd := plc_dist h k (by omega) qs hq
      have he := plc_pairs h k (by omega) hd
      rw [plc_step he hlab, emp_data] at hp
      intro i j hij hj hne
      by_cases e : j = k
      · subst e
        intro e2
        have hk0 : labD1 cl j ≠ [] := by rw [← e2]; exact hne
        rw [show decide ((labAt cl j).data.toList = []) = false from decide_eq_false hk0] at hp
        have hin : (labAt cl j).data.toList ∈ keysA (pairsTo cl j) := (mem_pairs cl _ j).2 ⟨i, hij, hne, e2⟩
        simp only [Bool.false_eq_true, if_false, hin, if_true] at hp
        cases hp
      · exact hd i j hij (by omega) hne
theorem rlk_iff (cl : List RC) : rlk cl = true ↔ ∀ i c, cl[i]? = some c → rbad cl i c.n = false := by
  constructor
  · intro h i c hc
    cases hb : rbad cl i c.n with
    | false => rfl
    | true => rw [rlk_bad hc hb] at h; cases h
  · intro h
    have : ∀ k, k ≤ cl.length → rlkTo cl k = true := by
      intro k
      induction k with
      | zero => intro _; rfl
      | succ k ih =>
        intro hk
        rw [rlkTo, ih (by omega), List.getElem?_eq_getElem (by omega : k < cl.length)]
        simp [h k _ (List.getElem?_eq_getElem (by omega : k < cl.length))]
    exact this _ (Nat.le_refl _)
theorem falls_kind {m : RN} {n : SN} (h : RelN { m with lab := emp } n) : falls m = !(n.kind == 5 || n.kind == 6) := by
  have hd : m.does = doesOf n.kind := h.does
  have hk := h.kind
  unfold falls
  rw [hd, ByteArray.toList_eq]
  obtain ⟨k, hk1⟩ : ∃ k : Int, n.kind = k := ⟨_, rfl⟩
  rw [hk1] at hk ⊢
  have : k = 0 ∨ k = 1 ∨ k = 2 ∨ k = 3 ∨ k = 4 ∨ k = 5 ∨ k = 6 := by omega
  rcases this with rfl | rfl | rfl | rfl | rfl | rfl | rfl <;> decide
theorem goal_kind {m : RN} {n : SN} (h : RelN { m with lab := emp } n) : (!m.goal.toList.isEmpty) = jumps n.kind := by
  have hg : m.goal = n.goal := h.goal
  rw [emp_data, hg]
  unfold jumps
  by_cases hk : n.kind = 4 ∨ n.kind = 5
  · have hn := h.gnm hk
    have : n.goal.data.toList ≠ [] := by
      intro e
      have : n.goal.size = 0 := by have := Wm.len_data n.goal; rw [e] at this; exact this.symm
      rw [Wm.nm_none _ this] at hn; cases hn
    simp [this, hk]
  · have := h.gno (fun e => hk (Or.inl e)) (fun e => hk (Or.inr e))
    rw [this]
    have h4 : (n.kind == 4) = false := by simpa using fun e => hk (Or.inl e)
    have h5 : (n.kind == 5) = false := by simpa using fun e => hk (Or.inr e)
    rw [h4, h5]; rfl
theorem goal_ne {m : RN} {n : SN} (h : RelN { m with lab := emp } n) (hj : jumps n.kind = true) : m.goal.data.toList ≠ [] := by
  have := goal_kind h
  rw [hj, emp_data] at this
  simpa using this
theorem hitsN_empty {cl : List RC} {m : RN} (hne : m.goal.data.toList ≠ []) : (hitsN cl m cl.length).isEmpty = true ↔ ∀ k, k < cl.length → labD1 cl k ≠ m.goal.data.toList := by
  have he : hitsN cl m cl.length = hitsTo cl m.goal cl.length := by
    unfold hitsN; rw [emp_data, decide_eq_false hne]; rfl
  rw [he, List.isEmpty_iff]
  constructor
  · intro h k hk e
    have key : ∀ n, k < n → (k : Int) ∈ hitsTo cl m.goal n := by
      intro n
      induction n with
      | zero => intro h; omega
      | succ n ih =>
        intro hn
        rw [hitsTo, List.mem_append]
        by_cases e2 : k = n
        · subst e2
          rw [beq_data, show decide ((labAt cl k).data.toList = m.goal.data.toList) = true from decide_eq_true e]
          exact Or.inr (by simp)
        · exact Or.inl (ih (by omega))
    have := key cl.length hk
    rw [h] at this; simp at this
  · intro h; exact hits_nil cl m.goal _ h
theorem link_rlk {cl : List RC} {pl : List PN} (h : RelL cl pl) (h0 : 0 < cl.length) : linkOk (pl.map PN.nc) = rlk cl := by
  have hl := h.len
  unfold linkOk
  rw [nc_labs]
  by_cases hd : Dist cl cl.length
  · have hp := plc_pairs h cl.length (Nat.le_refl _) hd
    rw [List.take_of_length_le (by simp; omega)] at hp
    rw [hp]
    simp only
    have hnd : ∀ (i : Nat) (c : RC), cl[i]? = some c → (!c.n.lab.toList.isEmpty && dupTo cl i c.n.lab cl.length) = false := by
      intro i c hc
      rw [Bool.and_eq_false_iff]
      by_cases e : c.n.lab.data.toList = []
      · left; rw [emp_data, decide_eq_true e]; rfl
      · right
        cases hdu : dupTo cl i c.n.lab cl.length with
        | false => rfl
        | true =>
          obtain ⟨k, h1, h2, h3⟩ := (dup_iff cl i c.n.lab _).1 hdu
          have hi := (List.getElem?_eq_some_iff.1 hc).1
          have hli : labD1 cl i = c.n.lab.data.toList := by unfold labD1; rw [labAt_eq hc]
          rcases Nat.lt_or_gt_of_ne h2 with hlt | hgt
          · exact absurd (h3.trans hli.symm) (hd k i hlt hi (by rw [h3]; exact e))
          · exact absurd (hli.trans h3.symm) (hd i k hgt h1 (by rw [hli]; exact e))
    have hgo : ∀ (i : Nat) (c : RC) (p : PN), cl[i]? = some c → pl[i]? = some p → ((!c.n.goal.toList.isEmpty && (hitsN cl c.n cl.length).isEmpty) = false ↔ (!jumps p.n.kind || decide (p.n.goal.data.toList ∈ keysA (pairsTo cl cl.length))) = true) := by
      intro i c p hc hpp
      have hr := (h.each i c p hc hpp).n
      have hg : c.n.goal = p.n.goal := hr.goal
      rw [goal_kind hr]
      cases hj : jumps p.n.kind with
      | false => simp
      | true =>
        have hne := goal_ne hr hj
        simp only [Bool.true_and, Bool.not_true, Bool.false_or, decide_eq_true_eq]
        rw [mem_pairs, ← hg, ← Bool.not_eq_true, hitsN_empty hne]
        constructor
        · intro hx
          false_or_by_contra
          rename_i hcon
          exact hx (fun k hk e => hcon ⟨k, hk, by rw [e]; exact hne, e⟩)
        · rintro ⟨k, hk, _, e⟩ hx
          exact hx k hk e
    obtain ⟨c, hc⟩ : ∃ c, cl[cl.length - 1]? = some c := ⟨_, List.getElem?_eq_getElem (by omega)⟩
    obtain ⟨p, hpp⟩ : ∃ p, pl[cl.length - 1]? = some p := ⟨_, List.getElem?_eq_getElem (by omega)⟩
    have hlast : lastOk (pairsTo cl cl.length) (pl.map PN.nc) = !falls c.n := by
      unfold lastOk
      have hg : (pl.map PN.nc).getLast? = some p.nc := by
        rw [List.getLast?_eq_getElem?, List.length_map, List.getElem?_map, ← hl, hpp]; rfl
      rw [hg]
      simp only [List.length_map]
      have hr := (h.each _ c p hc hpp).n
      rw [falls_kind hr, Bool.not_not]
      have hv := val_lt cl p.n.goal.data.toList cl.length h0
      unfold edgK edg
      show (!(if p.n.kind == 4 then _ else if p.n.kind == 5 then _ else if p.n.kind == 6 then _ else _ : List Int).contains _) = _
      have hkk := hr.kind
      have hn1 : (((pl.length - 1 : Nat) : Int) + 1) = (pl.length : Int) := by omega
      by_cases k4 : p.n.kind = 4
      · simp [k4, hn1]
      · by_cases k5 : p.n.kind = 5
        · have : ¬ ((pl.length : Int) = valA (pairsTo cl cl.length) p.nc.n.goal.data.toList) := by
            intro e
            have e2 : valA (pairsTo cl cl.length) p.nc.n.goal.data.toList < (cl.length : Int) := hv
            omega
          simp [k5, this]
        · by_cases k6 : p.n.kind = 6
          · simp [k6]
          · have b4 : (p.n.kind == 4) = false := by simpa using k4
            have b5 : (p.n.kind == 5) = false := by simpa using k5
            have b6 : (p.n.kind == 6) = false := by simpa using k6
            rw [b4, b5, b6]
            simp [hn1]
    rw [hlast, Bool.eq_iff_iff, rlk_iff, Bool.and_eq_true]
    constructor
    · rintro ⟨h1, h2⟩ i d hdd
      obtain ⟨q, hq⟩ : ∃ q, pl[i]? = some q := ⟨_, List.getElem?_eq_getElem (by have := (List.getElem?_eq_some_iff.1 hdd).1; omega)⟩
      unfold rbad
      rw [hnd i d hdd, (hgo i d q hdd hq).2 ?_]
      · by_cases e : i + 1 = cl.length
        · have : i = cl.length - 1 := by omega
          subst this
          rw [hc] at hdd; cases hdd
          have : falls c.n = false := by simpa using h2
          rw [this]; rfl
        · simp [e]
      · have := List.all_eq_true.1 h1 q.nc (List.mem_map_of_mem (List.mem_of_getElem? hq))
        exact this
    · intro hx
      constructor
      · unfold goalsOk
        rw [List.all_eq_true]
        intro x hxm
        obtain ⟨q, hqm, rfl⟩ := List.mem_map.1 hxm
        obtain ⟨i, hi, rfl⟩ := List.getElem_of_mem hqm
        have hq := List.getElem?_eq_getElem hi
        obtain ⟨d, hdd⟩ : ∃ d, cl[i]? = some d := ⟨_, List.getElem?_eq_getElem (by omega)⟩
        refine (hgo i d _ hdd hq).1 ?_
        have := hx i d hdd
        unfold rbad at this
        simp only [Bool.or_eq_false_iff] at this
        exact this.1.2
      · have := hx _ c hc
        unfold rbad at this
        simp only [Bool.or_eq_false_iff] at this
        have h2 := this.2
        rw [show decide (cl.length - 1 + 1 = cl.length) = true from decide_eq_true (by omega), Bool.and_true] at h2
        rw [h2]; rfl
  · have hpn : plc 0 [] (pl.map PN.lab) = none := by
      cases hp : plc 0 [] (pl.map PN.lab) with
      | none => rfl
      | some ps =>
        exfalso
        refine hd (plc_dist h cl.length (Nat.le_refl _) ps ?_)
        rw [List.take_of_length_le (by simp; omega)]; exact hp
    rw [hpn]
    simp only
    unfold Dist at hd
    simp only [Classical.not_forall, Classical.not_not] at hd
    obtain ⟨i, j, hij, hj, hne, he⟩ := hd
    obtain ⟨c, hc⟩ : ∃ c, cl[i]? = some c := ⟨_, List.getElem?_eq_getElem (by omega)⟩
    symm
    refine rlk_bad hc ?_
    have hli : labD1 cl i = c.n.lab.data.toList := by unfold labD1; rw [labAt_eq hc]
    have hdu : dupTo cl i c.n.lab cl.length = true := (dup_iff cl i c.n.lab _).2 ⟨j, hj, by omega, by rw [← hli]; exact he.symm⟩
    unfold rbad
    rw [hdu, emp_data, decide_eq_false (by rw [← hli]; exact hne)]
    rfl
theorem redg_eq {cl : List RC} {pl : List PN} (h : RelL cl pl) (h0 : 0 < cl.length) (hr : rlk cl = true) {ps : List (Nam × Nat)} (hp : plc 0 [] (pl.map PN.lab) = some ps) (i : Nat) (c : RC) (p : PN) (hc : cl[i]? = some c) (hpp : pl[i]? = some p) : redg cl i c.n = edgK ps p.nc i := by
  have hl := h.len
  have hd : Dist cl cl.length := plc_dist h cl.length (Nat.le_refl _) ps (by rw [List.take_of_length_le (by simp; omega)]; exact hp)
  have hp2 := plc_pairs h cl.length (Nat.le_refl _) hd
  rw [List.take_of_length_le (by simp; omega), hp] at hp2
  cases hp2
  have hb := (rlk_iff cl).1 hr i c hc
  unfold rbad at hb
  simp only [Bool.or_eq_false_iff] at hb
  have hrel := (h.each i c p hc hpp).n
  have hg : c.n.goal = p.n.goal := hrel.goal
  have hgk := goal_kind hrel
  unfold redg
  rw [falls_kind hrel]
  unfold edgK edg
  show _ = (if p.n.kind == 4 then _ else if p.n.kind == 5 then _ else if p.n.kind == 6 then _ else _ : List Int)
  cases hj : jumps p.n.kind with
  | false =>
    have hem : c.n.goal.toList.isEmpty = true := by rw [hj] at hgk; simpa using hgk
    have hn : hitsN cl c.n cl.length = [] := by unfold hitsN; rw [hem]; rfl
    unfold jumps at hj
    rw [Bool.or_eq_false_iff] at hj
    rw [hn, hj.1, hj.2]
    cases p.n.kind == 6 <;> rfl
  | true =>
    have hne := goal_ne hrel hj
    have hem : c.n.goal.toList.isEmpty = false := by rw [emp_data, decide_eq_false hne]
    have hex : ∃ k, k < cl.length ∧ labD1 cl k = c.n.goal.data.toList := by
      have h2 := hb.1.2
      rw [hem] at h2
      simp only [Bool.not_false, Bool.true_and] at h2
      false_or_by_contra
      rename_i hcon
      have := (hitsN_empty (cl := cl) hne).2 (fun k hk e => hcon ⟨k, hk, e⟩)
      rw [this] at h2; cases h2
    obtain ⟨k, hk, he⟩ := hex
    have hh : hitsN cl c.n cl.length = [(k : Int)] := by
      unfold hitsN; rw [hem]; exact hits_one cl c.n.goal hne _ hd k hk he
    have hv : valA (pairsTo cl cl.length) p.nc.n.goal.data.toList = k := by
      show valA (pairsTo cl cl.length) p.n.goal.data.toList = k
      rw [← hg]
      exact val_pairs cl _ hne _ hd k hk he
    rw [hh, hv]
    unfold jumps at hj
    have hk45 : p.n.kind = 4 ∨ p.n.kind = 5 := by simpa using hj
    rcases hk45 with e | e
    · simp [e]
    · simp [e]
end Go.Proofs.YtmipbiligijcpaaGreatDoor
namespace Go.Proofs.YtmipbiligijcpaaGreatDoor
set_option linter.unusedVariables false
set_option linter.unusedSimpArgs false
open Go.RowKit Go.Proofs Go.Maps

/-- the lines that are left, when the reader stands at k and the line began at fr -/
def InvL (s : ByteArray) (k fr : Nat) (rest : List ByteArray) : Prop :=
  if k ≤ s.size then rest.map (·.data.toList) = Wm.lns (Wm.sub s.data.toList fr k) (s.data.toList.drop k) else rest = []
theorem invL_start (s : ByteArray) : InvL s 0 0 (lnB s) := by
  unfold InvL
  rw [if_pos (Nat.zero_le _), Wm.sub_self, List.drop_zero]
  exact Wm.lines_eq s
theorem invL_non (s : ByteArray) (k fr : Nat) (rest : List ByteArray) (hk : k < s.size) (hf : fr ≤ k) (hb : ((s[k].toNat : Int) == 10) = false) (h : InvL s k fr rest) : InvL s (k + 1) fr rest := by
  unfold InvL at h ⊢
  rw [if_pos (by omega)] at h
  rw [if_pos (by omega), h, drop_cons s k hk, Wm.sub_grow s.data.toList fr k (k + 1) hf (by omega), sub_one s k hk]
  have : s[k] ≠ 10 := by intro e; rw [e] at hb; exact absurd hb (by decide)
  rw [Wm.lns]
  simp [this]
theorem invL_sep (s : ByteArray) (k fr : Nat) (rest : List ByteArray) (hk : k ≤ s.size) (hf : fr ≤ k) (hb : ∀ h : k < s.size, ((s[k].toNat : Int) == 10) = true) (h : InvL s k fr rest) : ∃ r, rest = s.extract fr k :: r ∧ InvL s (k + 1) (k + 1) r := by
  have hln := Wm.len_data s
  unfold InvL at h
  rw [if_pos hk] at h
  by_cases hlt : k < s.size
  · have h10 : s[k] = 10 := by
      have := hb hlt
      rw [beq_iff_eq] at this
      exact UInt8.toNat.inj (by have e : (10 : UInt8).toNat = 10 := rfl; omega)
    rw [drop_cons s k hlt, Wm.lns] at h
    simp only [h10, if_true] at h
    match rest, h with
    | x :: r, h =>
      simp only [List.map_cons, List.cons.injEq] at h
      refine ⟨r, ?_, ?_⟩
      · rw [data_inj (a := x) (b := s.extract fr k) (by rw [extract_sub]; exact h.1)]
      · unfold InvL
        rw [if_pos (by omega), Wm.sub_self]; exact h.2
  · obtain rfl : k = s.size := by omega
    rw [show s.data.toList.drop s.size = [] from List.drop_eq_nil_of_le (by omega), Wm.lns] at h
    match rest, h with
    | x :: r, h =>
      simp only [List.map_cons, List.cons.injEq, List.map_eq_nil_iff] at h
      refine ⟨r, ?_, ?_⟩
      · rw [data_inj (a := x) (b := s.extract fr s.size) (by rw [extract_sub]; exact h.1)]
      · unfold InvL
        rw [if_neg (by omega)]; exact h.2
theorem saysNo_int (w0 : ByteArray) (r : List ByteArray) (h : 0 < w0.size) : saysNo (w0 :: r) = ((w0[0].toNat : Int) == 35) := by
  unfold saysNo
  simp only
  rw [Wm.cons_data w0 h]
  simp only
  rw [Bool.eq_iff_iff, beq_iff_eq, beq_iff_eq]
  constructor
  · intro e; rw [e]; rfl
  · intro e; exact UInt8.toNat.inj (by have e2 : (35 : UInt8).toNat = 35 := rfl; omega)
theorem last_data (s : ByteArray) (h : 0 < s.size) : s.data.toList = (s.extract 0 (s.size - 1)).data.toList ++ [s[s.size - 1]] := by
  rw [extract_sub]
  have hln := Wm.len_data s
  have e := Wm.take_snoc s (s.size - 1) (by omega)
  rw [show s.size - 1 + 1 = s.size by omega, List.take_of_length_le (by omega)] at e
  simp only [Wm.sub, List.drop_zero, Nat.sub_zero]
  exact e
theorem colB_int (s : ByteArray) (h : 0 < s.size) : colB s = ((s[s.size - 1].toNat : Int) == 58) := by
  unfold colB Lib.hasSuffix
  have e := last_data s h
  rw [Bool.eq_iff_iff, beq_iff_eq, List.isSuffixOf_iff_suffix, e]
  constructor
  · rintro ⟨t, ht⟩
    have := (List.append_inj' ht rfl).2
    simp only [List.cons.injEq, and_true] at this
    rw [← this]; rfl
  · intro h2
    have : s[s.size - 1] = 58 := UInt8.toNat.inj (by have e2 : (58 : UInt8).toNat = 58 := rfl; omega)
    rw [this]
    exact ⟨_, rfl⟩
theorem labD_ext (s : ByteArray) (h : 0 < s.size) (hc : colB s = true) : labD s = s.extract 0 (s.size - 1) := by
  have hln := Wm.len_data s
  apply data_inj
  rw [extract_sub]
  show Lib.trimSuffix s.data.toList [58] = _
  unfold Lib.trimSuffix
  rw [if_pos (show Lib.hasSuffix s.data.toList [58] = true from hc)]
  simp [Wm.sub]

structure RRep (w : World) (c : RC) (p : PN) : Prop where
  rel : RelC c p
  ws : ∃ g off, c.wa = some ⟨g, off, none⟩ ∧ Ws w g off p.ws
  wl : c.wl = p.ws.length
structure RReps (w : World) (cl : List RC) (pl : List PN) : Prop where
  len : cl.length = pl.length
  each : ∀ (j : Nat) (c : RC) (p : PN), cl[j]? = some c → pl[j]? = some p → RRep w c p
theorem RReps.rel {w : World} {cl : List RC} {pl : List PN} (h : RReps w cl pl) : RelL cl pl := ⟨h.len, fun j c p a b => (h.each j c p a b).rel⟩
theorem RRep.mono {w w' : World} {c : RC} {p : PN} (h : RRep w c p) (hw : ∀ g off ws, Ws w g off ws → Ws w' g off ws) : RRep w' c p := by
  obtain ⟨g, off, h1, h2⟩ := h.ws
  exact ⟨h.rel, ⟨g, off, h1, hw _ _ _ h2⟩, h.wl⟩
theorem RReps.mono {w w' : World} {cl : List RC} {pl : List PN} (h : RReps w cl pl) (hw : ∀ g off ws, Ws w g off ws → Ws w' g off ws) : RReps w' cl pl :=
  ⟨h.len, fun j c p a b => (h.each j c p a b).mono hw⟩
theorem RReps.snoc {w : World} {cl : List RC} {pl : List PN} {c : RC} {p : PN} (h : RReps w cl pl) (hc : RRep w c p) : RReps w (cl ++ [c]) (pl ++ [p]) := by
  refine ⟨by simp [h.len], fun j a b ha hb => ?_⟩
  by_cases hj : j < cl.length
  · rw [List.getElem?_append_left hj] at ha
    rw [List.getElem?_append_left (by have := h.len; omega)] at hb
    exact h.each j a b ha hb
  · have hl := h.len
    rw [List.getElem?_append_right (by omega)] at ha
    rw [List.getElem?_append_right (by omega)] at hb
    have h0 : j - cl.length = 0 := by
      have := (List.getElem?_eq_some_iff.1 ha).1; simp at this; omega
    rw [h0] at ha
    rw [← hl, h0] at hb
    simp at ha hb
    subst ha; subst hb
    exact hc
end Go.Proofs.YtmipbiligijcpaaGreatDoor
namespace Go.Proofs.YtmipbiligijcpaaGreatDoor
set_option linter.unusedVariables false
set_option linter.unusedSimpArgs false
open Go.RowKit Go.Proofs Go.Maps

theorem rparse_long (s : ByteArray) (w : World) (h : decide (3000 < (s.size : Int)) = true) :
    Calls Tryz.prog 38 #[.string s] w fun e w' => e = .returned (.tuple #[.pointer none, .int .i64 1]) ∧ w' = w := by
  go_enter Tryz.func38, Tryz.ntmps38
  go_wp2
  go_ret2
  exact ⟨rfl, rfl⟩
def RPAns (w : World) (r : Pr) (e : Ending) (w' : World) : Prop :=
  Below w.heap.size w w' ∧
  match r with
  | .inl false => e = .returned (.tuple #[.pointer none, .int .i64 1])
  | .inl true => e = .returned (.tuple #[.pointer none, .int .i64 2])
  | .inr (pl, vs) => ∃ pb g cap va vc xv cl evs ps, e = .returned (.tuple #[.pointer (some ⟨pb, 0, none⟩), .int .i64 0]) ∧ w.heap.size ≤ pb ∧ w'.heap[pb]? = some (.cells #[.slice (some ⟨g, 0, none⟩) pl.length cap, .slice va vs.length vc, xv] 107 (0, 0)) ∧ w.heap.size ≤ g ∧ Rrow w' g cap cl ∧ RReps w' cl pl ∧ plc 0 [] (pl.map PN.lab) = some ps ∧ w'.ownsRow w.heap.size 36 1 xv evs.length evs ∧ evs.length = pl.length ∧ (∀ (j : Nat) (ev : Value) (p : PN), evs[j]? = some ev → pl[j]? = some p → w'.ownsRow w.heap.size 3 1 ev (edgK ps p.nc j).length ((edgK ps p.nc j).map (Value.int .i64)))
/-- what the loop of lines keeps -/
structure PS (w : World) (s : ByteArray) (k : Nat) (nv : Value) (vs : List Nam) (vb : Option Nat) (acc : List PN) (cl : List RC) (W : World) : Prop where
  rp : Rp W w.heap.size (w.heap.size + 1) nv (.slice none 0 0) vs vb
  row : W.ownsRow (w.heap.size + 1) 111 13 nv cl.length (rrow cl)
  reps : RReps W cl acc
  far : ∀ c ∈ cl, ∀ a, c.wa = some a → some a.block ≠ vb
  low : Below w.heap.size w W
  vlen : vs.length ≤ 3 * k
  clen : cl.length ≤ k
theorem PS.below {w W W' : World} {s : ByteArray} {k : Nat} {nv : Value} {vs : List Nam} {vb : Option Nat} {acc : List PN} {cl : List RC} (h : PS w s k nv vs vb acc cl W) (hb : Below W.heap.size W W') : PS w s k nv vs vb acc cl W' :=
  ⟨h.rp.below hb, own_of_below h.row hb, h.reps.mono (ws_below hb), h.far, h.low.trans (hb.mono h.low.size), h.vlen, h.clen⟩
theorem PS.next {w W : World} {s : ByteArray} {k : Nat} {nv : Value} {vs : List Nam} {vb : Option Nat} {acc : List PN} {cl : List RC} (h : PS w s k nv vs vb acc cl W) : PS w s (k + 1) nv vs vb acc cl W :=
  ⟨h.rp, h.row, h.reps, h.far, h.low, by have := h.vlen; omega, by have := h.clen; omega⟩

theorem form_of_own {w : World} {B : Nat} {v : Value} {w0 : ByteArray} {r : List ByteArray} (h : w.ownsRow B 9 1 v (w0 :: r).length ((w0 :: r).map Value.string)) : ∃ A cap, v = .slice (some ⟨A, 0, none⟩) (r.length + 1) cap ∧ B ≤ A ∧ r.length + 1 ≤ cap ∧ cap ≤ maxLen ∧ Ws w A 0 (w0 :: r) := by
  rcases h.2 with ⟨_, h0⟩ | ⟨g, cap, cur, hv, hb, hg, hc, hm, _, ht⟩
  · simp at h0
  · exact ⟨g, cap, hv, hb, hc, hm, cur, hg, by simpa using ht⟩

/-! ### a line of the document's, and the program's -/
theorem lin_plain {vs : List Nam} {w0 : ByteArray} {r : List ByteArray} (h : colB w0 = false) : lin vs (w0 :: r) = (emp, 0, stm vs (w0 :: r)) := by simp [lin, h]
structure LineIs (vs : List Nam) (ws rw : List ByteArray) (lab : ByteArray) (k : Nat) : Prop where
  no : rst vs rw = none → (lin vs ws).2.2.2.1 = false
  yes : ∀ m vs', rst vs rw = some (m, vs') → (lin vs ws).1 = lab ∧ ws.drop (lin vs ws).2.1 = rw ∧ (lin vs ws).2.2.2.1 = true ∧ (lin vs ws).2.2.2.2 = vs' ∧ RelN m (lin vs ws).2.2.1
theorem line_plain {vs : List Nam} {w0 : ByteArray} {r : List ByteArray} (h : colB w0 = false) : LineIs vs (w0 :: r) (w0 :: r) emp 0 := by
  have hs := same_all vs (w0 :: r)
  rw [show LineIs vs (w0 :: r) (w0 :: r) emp 0 ↔ LineIs vs (w0 :: r) (w0 :: r) emp 0 from Iff.rfl]
  refine ⟨fun e => ?_, fun m vs' e => ?_⟩
  · rw [lin_plain h]; exact hs.no e
  · rw [lin_plain h]
    obtain ⟨a, b, c⟩ := hs.yes m vs' e
    exact ⟨rfl, rfl, a, b, c⟩
theorem line_bad {vs : List Nam} {w0 : ByteArray} {r : List ByteArray} (h : colB w0 = true) (hn : Wm.nm (labD w0) = false) : (lin vs (w0 :: r)).2.2.2.1 = false := by
  simp [lin, h, hn, noSt]
theorem line_lab {vs : List Nam} {w0 : ByteArray} {r : List ByteArray} (h : colB w0 = true) (hn : Wm.nm (labD w0) = true) : LineIs vs (w0 :: r) r (labD w0) 1 := by
  have hs := same_all vs r
  match r, hs with
  | [], _ =>
    refine ⟨fun _ => by simp [lin, h, hn, noSt], fun m vs' e => by simp [rst] at e⟩
  | x :: r, hs =>
    have hl : lin vs (w0 :: x :: r) = (labD w0, 1, stm vs (x :: r)) := by simp [lin, h, hn]
    refine ⟨fun e => ?_, fun m vs' e => ?_⟩
    · rw [hl]; exact hs.no e
    · rw [hl]
      obtain ⟨a, b, c⟩ := hs.yes m vs' e
      exact ⟨rfl, rfl, a, b, c⟩
theorem rdl_no {vs : List Nam} {acc : List PN} {ws : List ByteArray} {rest : List (List ByteArray)} (h : saysNo ws = false) (h2 : (lin vs ws).2.2.2.1 = false) : rdl vs acc (ws :: rest) = none := by
  rw [rdl, h, h2]; rfl
def pnOf (vs : List Nam) (ws : List ByteArray) : PN := ⟨(lin vs ws).1, ws.drop (lin vs ws).2.1, (lin vs ws).2.2.1⟩
theorem rdl_yes {vs vs' : List Nam} {acc : List PN} {ws rw : List ByteArray} {lab : ByteArray} {k : Nat} {m : RN} {rest : List (List ByteArray)} (h : saysNo ws = false) (hl : LineIs vs ws rw lab k) (hr : rst vs rw = some (m, vs')) : rdl vs acc (ws :: rest) = rdl vs' (acc ++ [pnOf vs ws]) rest := by
  obtain ⟨_, _, h3, h4, _⟩ := hl.yes m vs' hr
  rw [rdl, h, h3, h4]; rfl
theorem rop_word {vs : List Nam} {s : ByteArray} (h : opdB s = true) : (rop vs s).word = s := by
  unfold rop
  split
  · rfl
  · split
    · rfl
    · rename_i h1 h2
      unfold opdB at h
      simp_all
theorem rst_words {vs vs' : List Nam} {rw : List ByteArray} {m : RN} (h : rst vs rw = some (m, vs')) (ho : m.ops = 2) (hd : m.does = ⟨#[61]⟩) : ∃ w0 w1, rw = [w0, w1, m.a.word, m.sign, m.b.word] := by
  unfold rst at h
  split at h
  · split at h <;> cases h
    simp at ho
  · repeat' (split at h)
    all_goals (cases h)
    all_goals (simp at ho)
  · repeat' (split at h)
    all_goals (cases h)
    all_goals (simp at ho)
  · rename_i w0 w1 w2 w3 w4
    split at h
    · split at h
      · rename_i h1
        cases h
        simp only [Bool.and_eq_true] at h1
        exact ⟨w0, w1, by rw [rop_word h1.1.1, rop_word h1.1.2]⟩
      · cases h
    · cases h
  · rename_i w0 w1 w2 w3 w4 w5
    split at h
    · rename_i h0
      split at h
      · cases h
        simp only at hd
        rw [hd] at h0
        simp at h0
      · cases h
    · cases h
  · cases h
theorem relC_of {vs vs' : List Nam} {ws rw : List ByteArray} {lab : ByteArray} {k : Nat} {m : RN} {wa : Option Addr} {wl wc : Nat} (hl : LineIs vs ws rw lab k) (hr : rst vs rw = some (m, vs')) : RelC ⟨{ m with lab := lab }, wa, wl, wc⟩ (pnOf vs ws) ∧ (pnOf vs ws).ws = rw := by
  obtain ⟨h1, h2, _, _, h5⟩ := hl.yes m vs' hr
  refine ⟨⟨h1.symm, ?_, fun hk => ?_⟩, h2⟩
  rotate_left
  · have hk' : (lin vs ws).2.2.1.kind = 1 := hk
    have e1 : m.ops = 2 := by rw [h5.ops, hk']; rfl
    have e2 : m.does = ⟨#[61]⟩ := by rw [h5.does, hk']; rfl
    obtain ⟨w0, w1, e⟩ := rst_words hr e1 e2
    exact ⟨w0, w1, h2.trans e⟩
  have : ({ ({ m with lab := lab } : RN) with lab := emp } : RN) = m := by
    have := h5.lab
    cases m; simp at this ⊢; exact this.symm
  show RelN { ({ m with lab := lab } : RN) with lab := emp } _
  rw [this]
  exact h5

/-! ### what the loop keeps, when a node is added -/
theorem own_rf {W W' : World} {pb : Nat} {vb : Option Nat} {B e size n : Nat} {v : Value} {xs : List Value} (h : W.ownsRow B e size v n xs) (hf : RF pb vb W W') (h1 : v.ownBlock = none ∨ v.ownBlock ≠ some pb) (h2 : v.ownBlock = none ∨ v.ownBlock ≠ vb) : W'.ownsRow B e size v n xs := by
  have hlt := h.lt
  refine ⟨h.1, ?_⟩
  rcases h.2 with a | ⟨g, cap, cur, e1, c1, c2, c3⟩
  · exact Or.inl a
  · subst e1
    refine Or.inr ⟨g, cap, cur, rfl, c1, (hf.block g (hlt g rfl).2 ?_ ?_).trans c2, c3⟩
    · rcases h1 with h1 | h1
      · cases h1
      · intro e; exact h1 (by rw [e]; rfl)
    · rcases h2 with h2 | h2
      · cases h2
      · exact h2
theorem RReps.those {w w' : World} {cl : List RC} {pl : List PN} (h : RReps w cl pl) (hw : ∀ c ∈ cl, ∀ a, c.wa = some a → ∀ off ws, Ws w a.block off ws → Ws w' a.block off ws) : RReps w' cl pl := by
  refine ⟨h.len, fun j c p a b => ?_⟩
  have hr := h.each j c p a b
  obtain ⟨g, off, h1, h2⟩ := hr.ws
  exact ⟨hr.rel, ⟨g, off, h1, hw c (List.mem_of_getElem? a) _ h1 _ _ h2⟩, hr.wl⟩
theorem RReps.lt {w : World} {cl : List RC} {pl : List PN} (h : RReps w cl pl) : ∀ c ∈ cl, ∀ a, c.wa = some a → a.block < w.heap.size := by
  intro c hc a ha
  obtain ⟨j, hj⟩ := List.getElem?_of_mem hc
  have hjl := (List.getElem?_eq_some_iff.1 hj).1
  obtain ⟨p, hp⟩ : ∃ p, pl[j]? = some p := ⟨_, List.getElem?_eq_getElem (by have := h.len; omega)⟩
  obtain ⟨g, off, h1, h2⟩ := (h.each j c p hj hp).ws
  rw [h1] at ha; cases ha
  exact h2.lt
theorem ws_ne_own {W : World} {g off : Nat} {ws : List ByteArray} {B e size n : Nat} {v : Value} {xs : List Value} (h : Ws W g off ws) (ho : W.ownsRow B e size v n xs) (he : 9 ≠ e) : some g ≠ v.ownBlock := by
  intro hv
  obtain ⟨c1, f1, a⟩ := own_cells ho g hv.symm
  obtain ⟨cur, hc, _⟩ := h
  rw [hc] at a
  simp at a
  exact he a.2.1
theorem ws_ne_box {W : World} {g off pb : Nat} {ws : List ByteArray} {cs : Array Value} {e : Nat} {f : Nat × Nat} (h : Ws W g off ws) (hb : W.heap[pb]? = some (.cells cs e f)) (he : 9 ≠ e) : g ≠ pb := by
  rintro rfl
  obtain ⟨cur, hc, _⟩ := h
  rw [hc] at hb
  simp at hb
  exact he hb.2.1
/-- the statement's call -/
theorem PS.call {w W W' : World} {s : ByteArray} {k : Nat} {nv : Value} {vs vs' : List Nam} {vb vb' : Option Nat} {acc : List PN} {cl : List RC} (h : PS w s k nv vs vb acc cl W) (hP : Rp W' w.heap.size (w.heap.size + 1) nv (.slice none 0 0) vs' vb') (hf : RF w.heap.size vb W W') (hn : newer W vb vb') (hv : vs'.length ≤ 3 * (k + 1)) : PS w s (k + 1) nv vs' vb' acc cl W' := by
  obtain ⟨vv, hb, ho, hvb⟩ := h.rp.box
  have hpz := h.rp.lt
  refine ⟨hP, ?_, ?_, ?_, ?_, hv, by have := h.clen; omega⟩
  · exact own_rf h.row hf (own_lt_ne h.row (by omega)) (by rw [← hvb]; exact own_ne_ty h.row ho (by decide))
  · exact h.reps.those (fun c hc a ha off ws hW => hW.rf h.rp (h.far c hc a ha) hf)
  · exact fun c hc a ha => hn.ne (h.reps.lt c hc a ha) (h.far c hc a ha)
  · refine ⟨hf.os.trans h.low.os, hf.tape.trans h.low.tape, hf.output.trans h.low.output, Nat.le_trans h.low.size hf.size, fun q hq => ?_⟩
    have h1 := h.low.size
    refine (hf.block q (by omega) (by omega) ?_).trans (h.low.block q hq)
    intro e
    have := (h.rp.vlt q e.symm).1
    omega
/-- the node is added -/
theorem PS.add {w W W5 : World} {s : ByteArray} {k : Nat} {nv v5 : Value} {vs : List Nam} {vb : Option Nat} {acc : List PN} {cl : List RC} {c : RC} {p : PN} (h : PS w s k nv vs vb acc cl W) (hgr : W.grownBy W5 nv.ownBlock) (ho5 : W5.ownsRow (w.heap.size + 1) 111 13 v5 (cl ++ [c]).length (rrow (cl ++ [c]))) (hc : RRep W c p) (hfar : ∀ a, c.wa = some a → some a.block ≠ vb) (hl : cl.length < k) : PS w s k v5 vs vb (acc ++ [p]) (cl ++ [c]) (W5.setCell ⟨w.heap.size, 0, none⟩ v5) := by
  obtain ⟨vv, hb, ho, hvb⟩ := h.rp.box
  have hpz := h.rp.lt
  have hb5 : W5.heap[w.heap.size]? = some (.cells #[nv, vv, .slice none 0 0] 107 (0, 0)) := (hgr.block _ hpz (lt_ne (fun k hk => (h.row.lt k hk).1) (by omega))).trans hb
  have hset := grown_self W5 w.heap.size 0 v5
  have keep : ∀ g off ws, Ws W g off ws → Ws (W5.setCell ⟨w.heap.size, 0, none⟩ v5) g off ws := fun g off ws hW =>
    hW.of_block ((Below.heap_setCell _ _ _ _ (ws_ne_box hW hb (by decide))).trans (hgr.block g hW.lt (ws_ne_own hW h.row (by decide))))
  refine ⟨⟨⟨vv, ?_, ?_, hvb⟩, h.rp.nodup⟩, ?_, ?_, ?_, ?_, h.vlen, by simp; omega⟩
  · rw [heap_setCell_same _ _ _ _ _ _ hb5]; rfl
  · exact (ho.kept hgr (own_ne_ty ho h.row (by decide))).kept hset (own_lt_ne ho (by omega))
  · exact ho5.kept hset (own_lt_ne ho5 (by omega))
  · exact (h.reps.snoc hc).mono keep
  · intro c' hc' a ha
    rcases List.mem_append.1 hc' with h1 | h1
    · exact h.far c' h1 a ha
    · simp at h1; subst h1; exact hfar a ha
  · have h1 := h.low.size
    refine ⟨hgr.os.trans h.low.os, hgr.tape.trans h.low.tape, hgr.output.trans h.low.output, by have := hgr.size; simp [World.setCell]; omega, fun q hq => ?_⟩
    refine (Below.heap_setCell _ _ _ _ (by simp; omega)).trans ((hgr.block q (by omega) (lt_ne (fun k hk => (h.row.lt k hk).1) (by omega))).trans (h.low.block q hq))
theorem rnCells_one (wv : Value) (h : wv.oneCell' = true) (n : RN) : ∀ u ∈ (rnCells wv n).toList, u.oneCell' = true := by
  intro u hu
  simp only [rnCells, List.mem_cons, List.mem_nil_iff, or_false] at hu
  rcases hu with rfl | rfl | rfl | rfl | rfl | rfl | rfl | rfl | rfl | rfl | rfl | rfl | rfl
  · exact h
  all_goals rfl
/-- what an append of a node asks -/
theorem app_facts {w W : World} {s : ByteArray} {k : Nat} {nv : Value} {vs : List Nam} {vb : Option Nat} {acc : List PN} {cl : List RC} (wv : Value) (n : RN) (h1 : wv.oneCell' = true) (h : PS w s k nv vs vb acc cl W) :
    ((W.alloc (.cells (rnCells wv n) 111)).alloc (.cells (rnCells wv n) 111)).ownsRow (w.heap.size + 1) 111 13 nv cl.length (rrow cl) ∧
    (∀ (j : Nat) (u : Value), (rnCells wv n).toList[j]? = some u → ((W.alloc (.cells (rnCells wv n) 111)).alloc (.cells (rnCells wv n) 111)).cell? ((⟨W.heap.size + 1, 0, none⟩ : Addr).add j) = some u) ∧
    (∀ u ∈ (rnCells wv n).toList, u.oneCell' = true) ∧
    w.heap.size + 1 ≤ ((W.alloc (.cells (rnCells wv n) 111)).alloc (.cells (rnCells wv n) 111)).heap.size :=
  ⟨(h.row.alloc _).alloc _, news_alloc2 W _ _ _, rnCells_one wv h1 n, by have := h.rp.lt; simp; omega⟩
theorem PS.kept {w W W4 : World} {s : ByteArray} {k : Nat} {nv : Value} {vs : List Nam} {vb : Option Nat} {acc : List PN} {cl : List RC} {o1 o2 : Obj} (h : PS w s k nv vs vb acc cl W) (hgr : ((W.alloc o1).alloc o2).grownBy W4 nv.ownBlock) : ∃ vv, W4.heap[w.heap.size]? = some (.cells #[nv, vv, .slice none 0 0] 107 (0, 0)) := by
  obtain ⟨vv, hb, _, _⟩ := h.rp.box
  have hpz := h.rp.lt
  have hg := ((World.grownBy_alloc W o1 _).trans (World.grownBy_alloc _ o2 _)).trans hgr
  exact ⟨vv, (hg.block _ hpz (lt_ne (fun k hk => (h.row.lt k hk).1) (by omega))).trans hb⟩
/-- append to a row of one's own, as one step of a region that draws -/
theorem step_own {P : Program} {ops : Array Oper} {o : Oper} {a : Act} {w : World} {K : Act → World → Prop} {Q : Exit → Act → World → Prop} {E : Prop}
    (hg : o.guard = none) (s x : Operand) (t : TypeId) (hop : o.op = Op.call { callee := Callee.builtin Builtin.append, args := #[s, x], argTypes := #[t, t] })
    (base : Nat) (e : TypeId) (i : TypeInfo) (z : Value) (size bytes : Nat) (h1 : P.underlying t = some (.slice e)) (h2 : P.info? e = some i) (h3 : i.zero = some z) (h4 : i.size = size) (h5 : i.bytes = bytes) (h6 : z.cells.size = size) (h7 : 0 < size)
    (v : Value) (n : Nat) (olds : List Value) (hs : a.eval s = v) (hown : w.ownsRow base e size v n olds)
    (ad : Addr) (m c : Nat) (news : List Value) (hx : a.eval x = .slice (some ad) m c) (hn : news.length = m * size) (hc : ∀ j u, news[j]? = some u → w.cell? (ad.add j) = some u) (h1c : ∀ u ∈ news, u.oneCell' = true)
    (b1 : n + m ≤ maxLen) (b2 : (n + m) * bytes ≤ 140737488355328) (hB : base ≤ w.heap.size)
    (hK : ∀ v' w', w'.ownsRow base e size v' (n + m) (olds ++ news) → w.grownBy w' v.ownBlock → K (a.put o.dst v') w') :
    if Region.wanted o (yielded ops a.tmps) = true then Oper.wp P o a w K Q else E := by
  have hw : Region.wanted o (yielded ops a.tmps) = true := by simp [Region.wanted, hg]
  rw [if_pos hw]
  obtain ⟨v', w', hrun, r1, r2, _⟩ := run_append_own_at (P := P) (w := w) base t o.type e i z size bytes h1 h2 h3 h4 h5 h6 h7 v n olds hown ad m c news hn hc h1c b1 b2 hB
  obtain ⟨a0, c0, rfl⟩ := sl_of_own hown
  unfold Oper.wp
  simp [execOp, hop, resolve, invoke, builtin, hs, hx, hrun, Result.andThen]
  exact hK v' w' r1 r2
/-! ### the end: the edges -/
theorem rrow_of_own {w : World} {B : Nat} {v : Value} {cl : List RC} (h : w.ownsRow B 111 13 v cl.length (rrow cl)) (h0 : 0 < cl.length) : ∃ g cap, v = .slice (some ⟨g, 0, none⟩) cl.length cap ∧ B ≤ g ∧ Rrow w g cap cl := by
  rcases h.2 with ⟨_, e⟩ | ⟨g, cap, cur, hv, hb, hg, hc, _, hs, ht⟩
  · omega
  · exact ⟨g, cap, hv, hb, cur, hg, hs, ht, hc⟩
theorem RF.of_none {pb : Nat} {vb : Option Nat} {W W' : World} (h : RF pb none W W') : RF pb vb W W' := ⟨h.os, h.tape, h.output, h.size, fun k hk h1 _ => h.block k hk h1 (by simp)⟩
theorem parse_ok {w W W' : World} {s : ByteArray} {k g cp vc : Nat} {va : Option Addr} {xv : Value} {evs : List Value} {vs : List Nam} {vb : Option Nat} {acc : List PN} {cl : List RC} (h : PS w s k (.slice (some ⟨g, 0, none⟩) cl.length cp) vs vb acc cl W) (hg : w.heap.size + 1 ≤ g) (h0 : 0 < cl.length) (hr : rlk cl = true) (hL : LkS W w.heap.size g cp (.slice va vs.length vc) cl cl.length xv evs W') (hf : RF w.heap.size none W W') (hlow : Below w.heap.size w W') : RPAns w (Pr.ok acc vs) (.returned (.tuple #[.pointer (some ⟨w.heap.size, 0, none⟩), .int .i64 0])) W' := by
  have hrel := h.reps.rel
  have hlen := h.reps.len
  have hlk : linkOk (acc.map PN.nc) = true := (link_rlk hrel h0).trans hr
  obtain ⟨ps, hps⟩ : ∃ ps, plc 0 [] (acc.map PN.lab) = some ps := by
    unfold linkOk at hlk
    rw [nc_labs] at hlk
    cases e : plc 0 [] (acc.map PN.lab) with
    | none => rw [e] at hlk; simp at hlk
    | some ps => exact ⟨ps, rfl⟩
  have hsz := h.low.size
  refine ⟨hlow, w.heap.size, g, cp, va, vc, xv, cl, evs, ps, rfl, Nat.le_refl _, ?_, by omega, hL.row, ?_, hps, own_mono hL.next hsz, hL.len.trans hlen, ?_⟩
  · rw [hL.box, hlen]
  · exact h.reps.those (fun c hc a ha off ws hW => hW.rf h.rp (h.far c hc a ha) hf.of_none)
  · intro j ev p hj hp
    have hjl := (List.getElem?_eq_some_iff.1 hp).1
    have hc := List.getElem?_eq_getElem (l := cl) (i := j) (by omega)
    have he := hL.edges j ev _ hj hc
    rw [redg_eq hrel h0 hr hps j _ p hc hp] at he
    exact own_mono he hsz
theorem prs_prg {s : ByteArray} {acc : List PN} {vs : List Nam} (hs : s.size ≤ 3000) (h : rdl [] [] (lnW s) = some (acc, vs)) (hp : progOk acc vs = false) : prs s = Pr.prg := by
  unfold prs
  rw [if_neg (by omega), h]
  simp only [hp]
  rfl
theorem prs_okk {s : ByteArray} {acc : List PN} {vs : List Nam} (hs : s.size ≤ 3000) (h : rdl [] [] (lnW s) = some (acc, vs)) (hp : progOk acc vs = true) : prs s = Pr.ok acc vs := by
  unfold prs
  rw [if_neg (by omega), h]
  simp only [hp]
  rfl
end Go.Proofs.YtmipbiligijcpaaGreatDoor
