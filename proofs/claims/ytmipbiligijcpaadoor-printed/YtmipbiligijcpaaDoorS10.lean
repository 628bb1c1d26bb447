/- What was printed is read as it was: the lines of words are the same; it is hardly longer. -/
import Derived.Test.YtmipbiligijcpaaDoorG
import Derived.Test.YtmipbiligijcpaaDoorV
namespace Go.Proofs.YtmipbiligijcpaaDoor
set_option linter.unusedVariables false
set_option linter.unusedSimpArgs false
open Go.RowKit Go.Proofs Go.Maps

/-! ### words and lines -/
theorem cutW_ok : ∀ (l cur : List UInt8), (∀ c ∈ cur, Wm.blk c = false) → ∀ x ∈ Wm.cutW cur l, x ≠ [] ∧ ∀ c ∈ x, Wm.blk c = false ∧ (c ∈ cur ∨ c ∈ l) := by
  intro l
  induction l with
  | nil =>
    intro cur hc x hx
    rw [Wm.cutW] at hx
    split at hx
    · cases hx
    · simp at hx; subst hx
      rename_i hne
      exact ⟨hne, fun c h => ⟨hc c h, Or.inl h⟩⟩
  | cons d r ih =>
    intro cur hc x hx
    rw [Wm.cutW] at hx
    split at hx
    · split at hx
      · obtain ⟨h1, h2⟩ := ih [] (by simp) x hx
        refine ⟨h1, fun c h => ⟨(h2 c h).1, ?_⟩⟩
        rcases (h2 c h).2 with h3 | h3
        · cases h3
        · exact Or.inr (by simp [h3])
      · rename_i hne
        rcases List.mem_cons.1 hx with h | h
        · subst h; exact ⟨hne, fun c h => ⟨hc c h, Or.inl h⟩⟩
        · obtain ⟨h1, h2⟩ := ih [] (by simp) x h
          refine ⟨h1, fun c h => ⟨(h2 c h).1, ?_⟩⟩
          rcases (h2 c h).2 with h3 | h3
          · cases h3
          · exact Or.inr (by simp [h3])
    · rename_i hb
      obtain ⟨h1, h2⟩ := ih (cur ++ [d]) (by
        intro c h
        rcases List.mem_append.1 h with h | h
        · exact hc c h
        · simp at h; subst h; simpa using hb) x hx
      refine ⟨h1, fun c h => ⟨(h2 c h).1, ?_⟩⟩
      rcases (h2 c h).2 with h3 | h3
      · rcases List.mem_append.1 h3 with h3 | h3
        · exact Or.inl h3
        · simp at h3; subst h3; exact Or.inr (by simp)
      · exact Or.inr (by simp [h3])
theorem lns_no10 : ∀ (l cur : List UInt8), (10 : UInt8) ∉ cur → ∀ x ∈ Wm.lns cur l, (10 : UInt8) ∉ x := by
  intro l
  induction l with
  | nil => intro cur hc x hx; simp [Wm.lns] at hx; subst hx; exact hc
  | cons d r ih =>
    intro cur hc x hx
    rw [Wm.lns] at hx
    split at hx
    · rcases List.mem_cons.1 hx with h | h
      · subst h; exact hc
      · exact ih [] (by simp) x h
    · rename_i hd
      refine ih (cur ++ [d]) ?_ x hx
      intro h
      rcases List.mem_append.1 h with h | h
      · exact hc h
      · simp at h; exact hd h.symm
/-- a word: not empty, no blank, no line's end -/
def GW (x : ByteArray) : Prop := x.data.toList ≠ [] ∧ ∀ c ∈ x.data.toList, Wm.blk c = false ∧ c ≠ 10
theorem lnW_good (s : ByteArray) : ∀ ws ∈ lnW s, ∀ x ∈ ws, GW x := by
  intro ws hws x hx
  obtain ⟨l, hl, rfl⟩ := List.mem_map.1 hws
  have h1 : l.data.toList ∈ Wm.lns [] s.data.toList := by rw [← Wm.lines_eq s]; exact List.mem_map_of_mem hl
  have h2 : x.data.toList ∈ Wm.cutW [] l.data.toList := by rw [← wds_eq l]; exact List.mem_map_of_mem hx
  obtain ⟨h3, h4⟩ := cutW_ok _ [] (by simp) _ h2
  refine ⟨h3, fun c hc => ⟨(h4 c hc).1, ?_⟩⟩
  rintro rfl
  rcases (h4 _ hc).2 with h5 | h5
  · cases h5
  · exact lns_no10 _ [] (by simp) _ h1 h5

/-! ### a printed line, cut again -/
theorem cut_flat : ∀ (r : List ByteArray) (cur : List UInt8), cur ≠ [] → (∀ y ∈ r, GW y) → Wm.cutW cur (r.flatMap (fun y => 32 :: y.data.toList)) = cur :: r.map (·.data.toList) := by
  intro r
  induction r with
  | nil => intro cur hc _; simp [Wm.cutW, hc]
  | cons y r ih =>
    intro cur hc hr
    have hy := hr y (by simp)
    rw [List.flatMap_cons, List.cons_append, Wm.cutW]
    have hb : Wm.blk 32 = true := by decide
    rw [hb, if_pos rfl, if_neg hc, Wm.cutW_skip [] _ _ (fun c h => (hy.2 c h).1), List.nil_append, ih _ hy.1 (fun z hz => hr z (by simp [hz]))]
    simp
theorem cut_jw (ws : List ByteArray) (h : ∀ y ∈ ws, GW y) : Wm.cutW [] (jw ws) = ws.map (·.data.toList) := by
  cases ws with
  | nil => rfl
  | cons x r =>
    have hx := h x (by simp)
    rw [jw, Wm.cutW_skip [] _ _ (fun c hc => (hx.2 c hc).1), List.nil_append, cut_flat _ _ hx.1 (fun y hy => h y (by simp [hy]))]
    simp
/-- the words of a node's line -/
def lineW (p : PN) : List ByteArray := (if p.lab.toList.isEmpty then [] else [⟨(p.lab.data.toList ++ [58]).toArray⟩]) ++ p.ws
theorem lineW_good {p : PN} (h : ∀ y ∈ lineW p, GW y) : (∀ y ∈ p.ws, GW y) ∧ ∀ c ∈ p.lab.data.toList, Wm.blk c = false ∧ c ≠ 10 := by
  refine ⟨fun y hy => h y (by unfold lineW; simp [hy]), fun c hc => ?_⟩
  cases he : p.lab.toList.isEmpty with
  | true =>
    rw [ByteArray.toList_eq] at he
    simp at he
    have : p.lab.data.toList = [] := by simpa using he
    rw [this] at hc
    cases hc
  | false =>
    have := (h ⟨(p.lab.data.toList ++ [58]).toArray⟩ (by unfold lineW; simp [he])).2 c (by simp [hc])
    exact this
theorem cut_line (p : PN) (h : ∀ y ∈ lineW p, GW y) : Wm.cutW [] (lbl p.lab ++ jw p.ws) = (lineW p).map (·.data.toList) := by
  obtain ⟨h1, h2⟩ := lineW_good h
  unfold lbl lineW
  cases he : p.lab.toList.isEmpty with
  | true => simp [cut_jw p.ws h1]
  | false =>
    simp only [Bool.false_eq_true, if_false]
    rw [show p.lab.data.toList ++ [58, 32] ++ jw p.ws = (p.lab.data.toList ++ [58]) ++ (32 :: jw p.ws) by simp]
    rw [Wm.cutW_skip [] _ _ (fun c hc => by
      rcases List.mem_append.1 hc with h3 | h3
      · exact (h2 c h3).1
      · simp at h3; subst h3; decide), List.nil_append, Wm.cutW]
    have hb : Wm.blk 32 = true := by decide
    rw [hb, if_pos rfl, if_neg (by simp), cut_jw p.ws h1]
    simp
theorem jw_no10 (ws : List ByteArray) (h : ∀ y ∈ ws, GW y) : (10 : UInt8) ∉ jw ws := by
  cases ws with
  | nil => simp [jw]
  | cons x r =>
    intro hm
    rw [jw] at hm
    rcases List.mem_append.1 hm with h1 | h1
    · exact ((h x (by simp)).2 _ h1).2 rfl
    · obtain ⟨y, hy, h2⟩ := List.mem_flatMap.1 h1
      rcases List.mem_cons.1 h2 with h3 | h3
      · cases h3
      · exact ((h y (by simp [hy])).2 _ h3).2 rfl
theorem lbl_no10 (b : ByteArray) (h : ∀ c ∈ b.data.toList, Wm.blk c = false ∧ c ≠ 10) : (10 : UInt8) ∉ lbl b := by
  unfold lbl
  split
  · simp
  · intro hm
    rcases List.mem_append.1 hm with h1 | h1
    · exact (h _ h1).2 rfl
    · simp at h1
theorem lns_skip : ∀ (a cur b : List UInt8), (10 : UInt8) ∉ a → Wm.lns cur (a ++ 10 :: b) = (cur ++ a) :: Wm.lns [] b := by
  intro a
  induction a with
  | nil => intro cur b _; simp [Wm.lns]
  | cons d a ih =>
    intro cur b h
    rw [List.cons_append, Wm.lns, if_neg (by intro e; exact h (by simp [e])), ih _ _ (by intro h2; exact h (by simp [h2]))]
    simp
theorem lns_prt : ∀ (pl : List PN), (∀ p ∈ pl, ∀ y ∈ lineW p, GW y) → Wm.lns [] (prt pl) = pl.map (fun p => lbl p.lab ++ jw p.ws) ++ [[]] := by
  intro pl
  induction pl with
  | nil => intro _; rfl
  | cons p r ih =>
    intro h
    obtain ⟨h1, h2⟩ := lineW_good (h p (by simp))
    rw [prt, List.flatMap_cons, lineOf]
    rw [show lbl p.lab ++ jw p.ws ++ [10] ++ r.flatMap lineOf = (lbl p.lab ++ jw p.ws) ++ 10 :: prt r by simp [prt]]
    rw [lns_skip _ [] _ (by
      intro hm
      rcases List.mem_append.1 hm with h3 | h3
      · exact lbl_no10 _ h2 h3
      · exact jw_no10 _ h1 h3), ih (fun q hq => h q (by simp [hq]))]
    simp
theorem maps_inj {a b : List ByteArray} (h : a.map (·.data.toList) = b.map (·.data.toList)) : a = b := by
  induction a generalizing b with
  | nil => cases b with
    | nil => rfl
    | cons y r => simp at h
  | cons x a ih =>
    cases b with
    | nil => simp at h
    | cons y r =>
      simp only [List.map_cons, List.cons.injEq] at h
      rw [data_inj h.1, ih h.2]
theorem mapss_inj : ∀ {a b : List (List ByteArray)}, a.map (fun l => l.map (·.data.toList)) = b.map (fun l => l.map (·.data.toList)) → a = b := by
  intro a
  induction a with
  | nil => intro b h; cases b with
    | nil => rfl
    | cons y r => simp at h
  | cons x a ih =>
    intro b h
    cases b with
    | nil => simp at h
    | cons y r =>
      simp only [List.map_cons, List.cons.injEq] at h
      rw [maps_inj h.1, ih h.2]
theorem lnW_data (t : ByteArray) : (lnW t).map (fun l => l.map (·.data.toList)) = (Wm.lns [] t.data.toList).map (Wm.cutW []) := by
  have h := Wm.lines_eq t
  unfold lnW lnB
  rw [← h, List.map_map, List.map_map]
  apply List.map_congr_left
  intro x _
  exact wds_eq x
theorem lnW_prt (pl : List PN) (h : ∀ p ∈ pl, ∀ y ∈ lineW p, GW y) : lnW ⟨(prt pl).toArray⟩ = pl.map lineW ++ [[]] := by
  apply mapss_inj
  rw [lnW_data]
  show (Wm.lns [] (prt pl)).map (Wm.cutW []) = _
  rw [lns_prt pl h, List.map_append, List.map_append, List.map_map, List.map_map]
  congr 1
  apply List.map_congr_left
  intro p hp
  exact cut_line p (h p hp)

/-! ### the reader's lines are the printed ones -/
theorem trim_back {l : List UInt8} (h : Lib.hasSuffix l [58] = true) : l = Lib.trimSuffix l [58] ++ [58] := by
  unfold Lib.trimSuffix
  rw [if_pos h]
  unfold Lib.hasSuffix at h
  rw [List.isSuffixOf_iff_suffix] at h
  obtain ⟨t, rfl⟩ := h
  simp
theorem nm_ne {b : ByteArray} (h : Wm.nm b = true) : b.toList.isEmpty = false := by
  rw [ByteArray.toList_eq]
  cases he : b.data.toList with
  | nil => unfold Wm.nm at h; rw [he] at h; simp [Wm.nameL] at h
  | cons _ _ => rfl
theorem line_back {vs : List Nam} {ws : List ByteArray} {n : SN} (h : (lin vs ws).2.2.2.1 = true) : lineW ⟨(lin vs ws).1, ws.drop (lin vs ws).2.1, n⟩ = ws ∧ ws.drop (lin vs ws).2.1 ≠ [] := by
  match ws, h with
  | [], h => simp [lin, noSt] at h
  | w0 :: r, h =>
    cases hc : colB w0 with
    | false =>
      have hl : lin vs (w0 :: r) = (emp, 0, stm vs (w0 :: r)) := by simp [lin, hc]
      rw [hl]
      have : emp.toList.isEmpty = true := by rw [ByteArray.toList_eq]; rfl
      simp [lineW, this]
    | true =>
      cases hn : Wm.nm (labD w0) with
      | false => simp [lin, hc, hn, noSt] at h
      | true =>
        match r, h with
        | [], h => simp [lin, hc, hn, noSt] at h
        | x :: r, h =>
          have hl : lin vs (w0 :: x :: r) = (labD w0, 1, stm vs (x :: r)) := by simp [lin, hc, hn]
          rw [hl]
          have he := nm_ne hn
          have hw : (⟨((labD w0).data.toList ++ [58]).toArray⟩ : ByteArray) = w0 := by
            apply data_inj
            show ((labD w0).data.toList ++ [58]) = w0.data.toList
            exact (trim_back hc).symm
          simp [lineW, he, hw]
theorem rdl_lines : ∀ (L : List (List ByteArray)) (vs : List Nam) (acc pl : List PN) (vs' : List Nam), rdl vs acc L = some (pl, vs') → ∃ new, pl = acc ++ new ∧ new.map lineW = L.filter (fun ws => !saysNo ws) ∧ ∀ p ∈ new, p.ws ≠ [] := by
  intro L
  induction L with
  | nil => intro vs acc pl vs' h; simp [rdl] at h; exact ⟨[], by simp [h.1], rfl, by simp⟩
  | cons ws r ih =>
    intro vs acc pl vs' h
    rw [rdl] at h
    split at h
    · rename_i hs
      obtain ⟨new, h1, h2, h3⟩ := ih vs acc pl vs' h
      exact ⟨new, h1, by rw [List.filter_cons]; simp [hs, h2], h3⟩
    · rename_i hs
      split at h
      · rename_i hok
        obtain ⟨new, h1, h2, h3⟩ := ih _ _ pl vs' h
        obtain ⟨hb1, hb2⟩ := line_back (n := (lin vs ws).2.2.1) hok
        refine ⟨⟨(lin vs ws).1, ws.drop (lin vs ws).2.1, (lin vs ws).2.2.1⟩ :: new, by rw [h1]; simp, ?_, ?_⟩
        · rw [List.filter_cons]
          simp only [List.map_cons, hb1, h2]
          simp [hs]
        · intro p hp
          rcases List.mem_cons.1 hp with h4 | h4
          · subst h4; exact hb2
          · exact h3 p h4
      · cases h
theorem rdl_filter : ∀ (L : List (List ByteArray)) (vs : List Nam) (acc : List PN), rdl vs acc L = rdl vs acc (L.filter (fun ws => !saysNo ws)) := by
  intro L
  induction L with
  | nil => intro vs acc; rfl
  | cons ws r ih =>
    intro vs acc
    rw [List.filter_cons, rdl]
    cases hs : saysNo ws with
    | true => simp [ih]
    | false =>
      simp only [Bool.not_false, if_true, Bool.false_eq_true, if_false]
      rw [rdl, hs]
      simp only [Bool.false_eq_true, if_false]
      split
      · exact ih _ _
      · rfl
theorem rdl_tail (L : List (List ByteArray)) (vs : List Nam) (acc : List PN) : rdl vs acc (L ++ [[]]) = rdl vs acc L := by
  rw [rdl_filter, rdl_filter L, List.filter_append]
  simp [saysNo]
/-- what was printed is the same program -/
theorem printed_same {s : ByteArray} {pl : List PN} {vs : List Nam} (h : prs s = Pr.ok pl vs) (hz : (prt pl).length ≤ 3000) : prs ⟨(prt pl).toArray⟩ = Pr.ok pl vs := by
  obtain ⟨_, _, hok, hr, _⟩ := prs_ok h
  obtain ⟨new, h1, h2, _⟩ := rdl_lines _ _ _ _ _ hr
  rw [List.nil_append] at h1
  subst h1
  have hg : ∀ p ∈ pl, ∀ y ∈ lineW p, GW y := by
    intro p hp y hy
    have : lineW p ∈ (lnW s).filter (fun ws => !saysNo ws) := by rw [← h2]; exact List.mem_map_of_mem hp
    exact lnW_good s _ (List.mem_filter.1 this).1 y hy
  have hr2 : rdl [] [] (lnW ⟨(prt pl).toArray⟩) = some (pl, vs) := by
    rw [lnW_prt pl hg, rdl_tail, h2, ← rdl_filter]
    exact hr
  unfold prs
  have hsz : (⟨(prt pl).toArray⟩ : ByteArray).size = (prt pl).length := rfl
  rw [if_neg (by omega), hr2]
  simp only [hok]
  rfl

/-! ### how long it is -/
def wl (ws : List ByteArray) : Nat := (ws.map (fun x => x.size + 1)).sum
theorem cut_sum : ∀ (l cur : List UInt8), ((Wm.cutW cur l).map (fun x => x.length + 1)).sum ≤ cur.length + l.length + 1 := by
  intro l
  induction l with
  | nil => intro cur; rw [Wm.cutW]; split <;> simp
  | cons d r ih =>
    intro cur
    rw [Wm.cutW]
    split
    · split
      · have := ih []; simp at this ⊢; omega
      · have := ih []; simp at this ⊢; omega
    · have := ih (cur ++ [d]); simp at this ⊢; omega
theorem wds_sum (x : ByteArray) : wl (wds x) ≤ x.size + 1 := by
  have h := cut_sum x.data.toList []
  rw [← wds_eq x, List.map_map] at h
  simp only [List.length_nil, Wm.len_data] at h
  unfold wl
  have : (wds x).map ((fun x : List UInt8 => x.length + 1) ∘ (·.data.toList)) = (wds x).map (fun x => x.size + 1) := by
    apply List.map_congr_left; intro y _; rfl
  rw [this] at h
  omega
theorem lns_sum : ∀ (l cur : List UInt8), ((Wm.lns cur l).map (fun x => x.length + 1)).sum = cur.length + l.length + 1 := by
  intro l
  induction l with
  | nil => intro cur; simp [Wm.lns]
  | cons d r ih =>
    intro cur
    rw [Wm.lns]
    split
    · have := ih []; simp at this ⊢; omega
    · have := ih (cur ++ [d]); simp at this ⊢; omega
theorem sum_le_map {α : Type} (l : List α) (f g : α → Nat) (h : ∀ x ∈ l, f x ≤ g x) : (l.map f).sum ≤ (l.map g).sum := by
  induction l with
  | nil => simp
  | cons a r ih =>
    have h1 := h a (by simp)
    have h2 := ih (fun x hx => h x (by simp [hx]))
    simp only [List.map_cons, List.sum_cons]
    omega
theorem sum_filter {α : Type} (l : List α) (f : α → Nat) (p : α → Bool) : ((l.filter p).map f).sum ≤ (l.map f).sum := by
  induction l with
  | nil => simp
  | cons a r ih =>
    rw [List.filter_cons]
    split
    · simp only [List.map_cons, List.sum_cons]; omega
    · simp only [List.map_cons, List.sum_cons]; omega
theorem lnW_sum (s : ByteArray) : ((lnW s).map wl).sum ≤ s.size + 1 := by
  unfold lnW
  rw [List.map_map]
  refine Nat.le_trans (sum_le_map _ _ (fun x => x.size + 1) (fun x _ => wds_sum x)) ?_
  have h := lns_sum s.data.toList []
  have h2 : (lnB s).map (·.data.toList) = Wm.lns [] s.data.toList := Wm.lines_eq s
  rw [← h2, List.map_map] at h
  simp only [List.length_nil, Wm.len_data] at h
  have : (lnB s).map ((fun x : List UInt8 => x.length + 1) ∘ (·.data.toList)) = (lnB s).map (fun x => x.size + 1) := by
    apply List.map_congr_left; intro y _; rfl
  rw [this] at h
  omega
theorem jw_len (x : ByteArray) (r : List ByteArray) : (jw (x :: r)).length + 1 = wl (x :: r) := by
  unfold jw wl
  rw [List.length_append, List.map_cons, List.sum_cons, Wm.len_data]
  have : (r.flatMap (fun y => 32 :: y.data.toList)).length = (r.map (fun x => x.size + 1)).sum := by
    induction r with
    | nil => rfl
    | cons y r ih =>
      rw [List.flatMap_cons, List.length_append, ih, List.map_cons, List.sum_cons, List.length_cons, Wm.len_data]
  omega
theorem lineOf_len (p : PN) (h : p.ws ≠ []) : (lineOf p).length = wl (lineW p) := by
  match hws : p.ws, h with
  | x :: r, _ =>
    have := jw_len x r
    unfold lineOf lineW lbl
    rw [hws]
    cases he : p.lab.toList.isEmpty with
    | true => simp only [if_true, List.nil_append, List.length_append, List.length_singleton]; omega
    | false =>
      simp only [Bool.false_eq_true, if_false, List.length_append, List.length_cons, List.length_nil]
      have h2 : wl ([(⟨(p.lab.data.toList ++ [58]).toArray⟩ : ByteArray)] ++ x :: r) = (p.lab.data.toList.length + 1 + 1) + wl (x :: r) := by
        unfold wl
        rw [List.map_append, List.sum_append]
        have : (⟨(p.lab.data.toList ++ [58]).toArray⟩ : ByteArray).size = p.lab.data.toList.length + 1 := by
          show (p.lab.data.toList ++ [58]).length = _
          simp
        simp [this]
      omega
theorem prt_sum : ∀ (pl : List PN), (∀ p ∈ pl, p.ws ≠ []) → (prt pl).length = ((pl.map lineW).map wl).sum := by
  intro pl
  induction pl with
  | nil => intro _; rfl
  | cons p r ih =>
    intro h
    rw [prt, List.flatMap_cons, List.length_append, lineOf_len p (h p (by simp))]
    have := ih (fun q hq => h q (by simp [hq]))
    rw [prt] at this
    rw [this]
    simp
theorem printed_long {s : ByteArray} {pl : List PN} {vs : List Nam} (h : prs s = Pr.ok pl vs) : (prt pl).length ≤ s.size + 1 := by
  obtain ⟨_, _, _, hr, _⟩ := prs_ok h
  obtain ⟨new, h1, h2, h3⟩ := rdl_lines _ _ _ _ _ hr
  rw [List.nil_append] at h1
  subst h1
  rw [prt_sum pl h3, h2]
  exact Nat.le_trans (sum_filter _ _ _) (lnW_sum s)
end Go.Proofs.YtmipbiligijcpaaDoor
