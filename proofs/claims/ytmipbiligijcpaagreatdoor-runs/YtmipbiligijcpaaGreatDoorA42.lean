/- A part of the proof: contracts of functions of the program. -/
import Derived.Test.YtmipbiligijcpaaGreatDoorA40
namespace Go.Proofs.YtmipbiligijcpaaGreatDoor
set_option linter.unusedVariables false
set_option linter.unusedSimpArgs false
open Go.RowKit Go.Proofs Go.Maps

/-- a trace whose memory is its owner's: its rows lie apart, in the blocks from c to hi -/
structure TrS (w : World) (c hi : Nat) (ov sv : Value) (outs : List Int) (stl : List Stp) : Prop where
  o : w.ownsRow c 2 1 ov outs.length (outs.map (Value.int .i64))
  s : w.ownsRow c 113 2 sv stl.length (stCells stl)
  each : ∀ s ∈ stl, w.ownsRow c 2 1 s.2.1 s.2.2.length (s.2.2.map (Value.int .i64)) ∧ s.2.2.length ≤ 8 ∧ ∃ q, s.2.1.ownBlock = some q ∧ q < hi ∧ some q ≠ ov.ownBlock
  nd : (stl.map fun s => s.2.1.ownBlock).Nodup
  ohi : ∀ k, ov.ownBlock = some k → k < hi
  shi : ∀ k, sv.ownBlock = some k → k < hi
  ol : outs.length ≤ 3000
  sl : stl.length ≤ 3000
/-- the blocks of its numbers that are taken, up to step i -/
def Tk (ov : Value) (stl : List Stp) (i k : Nat) : Prop := some k = ov.ownBlock ∨ ∃ j s, j < i ∧ stl[j]? = some s ∧ s.2.1.ownBlock = some k
structure TrI (w wr : World) (bb B i : Nat) (l2 l2' l3 wt rt ov : Value) (ls ls' l3s : List Value) (stl : List Stp) : Prop where
  bk : BK wr bb B l2' l3 wt rt ls' l3s
  len : ls'.length = ls.length + 4 + 4 * i
  vs : ∀ v ∈ ls', v ∈ ls ∨ ∃ k, v.ownBlock = some k ∧ (Tk ov stl i k ∨ w.heap.size ≤ k) ∨ v.ownBlock = none
  new : l2'.ownBlock = l2.ownBlock ∨ ∃ k, l2'.ownBlock = some k ∧ w.heap.size ≤ k
  fr : Fr (fun k => k ≠ bb ∧ some k ≠ l2.ownBlock ∧ ¬ Tk ov stl i k) w wr
theorem TrI.next {w wr W : World} {bb B i : Nat} {l2 l2' l2'' l3 wt rt ov : Value} {ls ls' ls'' l3s : List Value} {stl : List Stp} {s : Stp} (h : TrI w wr bb B i l2 l2' l3 wt rt ov ls ls' l3s stl) (hs : stl[i]? = some s) (hlen : ls''.length = ls'.length + 4) (hbk : BK W bb B l2'' l3 wt rt ls'' l3s) (hvs : ∀ v ∈ ls'', v ∈ ls' ∨ v.ownBlock = s.2.1.ownBlock ∨ ∃ k, v.ownBlock = some k ∧ wr.heap.size ≤ k) (hnew : l2''.ownBlock = l2'.ownBlock ∨ ∃ k, l2''.ownBlock = some k ∧ wr.heap.size ≤ k) (hfr : Fr (fun k => k ≠ bb ∧ some k ≠ s.2.1.ownBlock ∧ some k ≠ l2'.ownBlock) wr W) : TrI w W bb B (i + 1) l2 l2'' l3 wt rt ov ls ls'' l3s stl := by
  have hz := h.fr.size
  have htk : ∀ k, Tk ov stl i k → Tk ov stl (i + 1) k := by
    rintro k (e | ⟨j, s, hj, a, b⟩)
    · exact Or.inl e
    · exact Or.inr ⟨j, s, by omega, a, b⟩
  refine ⟨hbk, by rw [hlen, h.len]; omega, ?_, ?_, ?_⟩
  · intro v hv
    rcases hvs v hv with hv | hv | ⟨k, hk, hkz⟩
    · rcases h.vs v hv with a | ⟨k, ⟨hk, hh⟩ | hk⟩
      · exact Or.inl a
      · refine Or.inr ⟨k, Or.inl ⟨hk, ?_⟩⟩
        rcases hh with hh | hh
        · exact Or.inl (htk k hh)
        · exact Or.inr hh
      · exact Or.inr ⟨k, Or.inr hk⟩
    · cases hb : s.2.1.ownBlock with
      | none => exact Or.inr ⟨0, Or.inr (hv.trans hb)⟩
      | some k => exact Or.inr ⟨k, Or.inl ⟨hv.trans hb, Or.inl (Or.inr ⟨i, s, by omega, hs, hb⟩)⟩⟩
    · exact Or.inr ⟨k, Or.inl ⟨hk, Or.inr (by omega)⟩⟩
  · rcases hnew with e | ⟨k, hk, hkz⟩
    · rw [e]; exact h.new
    · exact Or.inr ⟨k, hk, by omega⟩
  · refine (h.fr.mono (Q := fun k => k ≠ bb ∧ some k ≠ l2.ownBlock ∧ ¬ Tk ov stl (i + 1) k) (fun k _ hp => ⟨hp.1, hp.2.1, fun e => hp.2.2 (htk k e)⟩)).trans hfr ?_
    rintro k hk ⟨h1, h2, h3⟩
    refine ⟨h1, fun e => h3 (Or.inr ⟨i, s, by omega, hs, e.symm⟩), fun e => ?_⟩
    rcases h.new with e2 | ⟨q, e2, hq⟩
    · exact h2 (e.trans e2)
    · rw [e2] at e
      cases e
      omega
theorem nodup_at {stl : List Stp} (h : (stl.map fun s => s.2.1.ownBlock).Nodup) {i j : Nat} {s s' : Stp} (hi : stl[i]? = some s) (hj : stl[j]? = some s') (hne : j < i) : s'.2.1.ownBlock ≠ s.2.1.ownBlock := by
  intro e
  have hil := (List.getElem?_eq_some_iff.1 hi).1
  have h1 : (stl.map fun s => s.2.1.ownBlock)[i]? = some s.2.1.ownBlock := by simp [hi]
  have h2 : (stl.map fun s => s.2.1.ownBlock)[j]? = some s'.2.1.ownBlock := by simp [hj]
  rw [e, ← h1] at h2
  have := (List.getElem?_inj (by simpa using (show j < stl.length by omega)) h).1 h2
  omega
/-- what numbers may be taken at a step -/
theorem TrI.row {w wr : World} {bb B i c hi Z : Nat} {l2 l2' l3 wt rt ov sv : Value} {ls ls' l3s : List Value} {outs : List Int} {stl : List Stp} {s : Stp} {cs : Array Value} (h : TrI w wr bb B i l2 l2' l3 wt rt ov ls ls' l3s stl) (hT : TrS w c hi ov sv outs stl) (hbx : w.heap[bb]? = some (.cells cs 32 (0, 0))) (hr2 : w.ownsRow B 23 1 l2 ls.length ls) (hZ : Z ≤ w.heap.size) (hhi : hi ≤ Z) (hc : ∀ v ∈ ls, ∀ k, v.ownBlock = some k → k < c ∨ Z ≤ k) (hs : stl[i]? = some s) : wr.ownsRow c 2 1 s.2.1 s.2.2.length (s.2.2.map (Value.int .i64)) ∧ (∀ v ∈ ls', ∀ k, v.ownBlock = some k → some k ≠ s.2.1.ownBlock) := by
  obtain ⟨a1, a2, q, a3, a4, a5⟩ := hT.each s (List.mem_of_getElem? hs)
  have hq := a1.lt q a3
  have hnt : ¬ Tk ov stl i q := by
    rintro (e | ⟨j, s', hj, e1, e2⟩)
    · exact a5 e
    · exact nodup_at hT.nd hs e1 hj (e2.trans a3.symm)
  refine ⟨h.fr.own a1 (fun k hk => ?_), ?_⟩
  · rw [a3] at hk
    cases hk
    obtain ⟨cur, hcur⟩ := own_tyof a1 a3
    refine ⟨?_, own_ty hr2 hcur (by decide), hnt⟩
    intro e
    subst e
    rw [hbx] at hcur
    simp at hcur
  · intro v hv k hk e
    rw [a3] at e
    cases e
    rcases h.vs v hv with hv | ⟨k', ⟨hk', hh⟩ | hk'⟩
    · have := hc v hv q hk
      omega
    · rw [hk] at hk'
      cases hk'
      rcases hh with hh | hh
      · exact hnt hh
      · omega
    · rw [hk] at hk'; cases hk'
/-- the steps are there, untouched -/
theorem TrI.steps {w wr : World} {bb B i c hi : Nat} {l2 l2' l3 wt rt ov sv : Value} {ls ls' l3s : List Value} {outs : List Int} {stl : List Stp} {cs : Array Value} (h : TrI w wr bb B i l2 l2' l3 wt rt ov ls ls' l3s stl) (hT : TrS w c hi ov sv outs stl) (hbx : w.heap[bb]? = some (.cells cs 32 (0, 0))) (hr2 : w.ownsRow B 23 1 l2 ls.length ls) : wr.ownsRow c 113 2 sv stl.length (stCells stl) := by
  refine h.fr.own hT.s (fun k hk => ?_)
  obtain ⟨cur, hcur⟩ := own_tyof hT.s hk
  refine ⟨?_, own_ty hr2 hcur (by decide), ?_⟩
  · intro e
    subst e
    rw [hbx] at hcur
    simp at hcur
  · rintro (e | ⟨j, s', hj, e1, e2⟩)
    · exact own_ty hT.o hcur (by decide) e
    · exact own_ty (hT.each s' (List.mem_of_getElem? e1)).1 hcur (by decide) e2.symm
theorem TrS.below {w w' : World} {c hi : Nat} {ov sv : Value} {outs : List Int} {stl : List Stp} (h : TrS w c hi ov sv outs stl) (hb : Below w.heap.size w w') : TrS w' c hi ov sv outs stl :=
  ⟨own_of_below h.o hb, own_of_below h.s hb, fun s hs => ⟨own_of_below (h.each s hs).1 hb, (h.each s hs).2⟩, h.nd, h.ohi, h.shi, h.ol, h.sl⟩
theorem sizes32 (n : Nat) (h : n ≤ 3000) : n + 1 ≤ maxLen ∧ (n + 1) * 32 ≤ 140737488355328 ∧ n + 1 + 1 ≤ maxLen ∧ (n + 1 + 1) * 32 ≤ 140737488355328 ∧ n + 1 + 1 + 1 ≤ maxLen ∧ (n + 1 + 1 + 1) * 32 ≤ 140737488355328 := by
  have : 4000 ≤ maxLen := by decide
  omega
theorem sizes24 (n : Nat) (h : n ≤ 50000) : n + 4 ≤ maxLen ∧ (n + 4) * 24 ≤ 140737488355328 := by
  have : 60000 ≤ maxLen := by decide
  omega
theorem infoSts : (Tryz.prog.info? 55).map (fun i => (i.zero, i.size, i.bytes)) = some (some (.slice none 0 0), 1, 24) := by kernel_rfl
theorem cell_two (w : World) (a b : Value) (t : TypeId) : ∀ j u, [a, b][j]? = some u → (w.alloc (.cells #[a, b] t)).cell? ((⟨w.heap.size, 0, none⟩ : Addr).add j) = some u := by
  intro j u hj
  match j, hj with
  | 0, hj => simp at hj; subst hj; simp [Addr.add]
  | 1, hj => simp at hj; subst hj; simp [Addr.add]
theorem wrapm (q : Nat) (h : q ≤ 100000) : wrap64 (q : Int) = q ∧ wrap64 (-7 - (q : Int)) = -7 - q := by
  unfold wrap64
  omega
theorem add00 (b k : Nat) : (⟨b, 0, none⟩ : Addr).add k = ⟨b, k, none⟩ := by unfold Addr.add; split <;> simp_all
theorem set_marks2 (k : Nat) (a b : Value) (xs : List Value) (hk : k * 2 + 1 < xs.length) : (((marks k [a, b] ++ xs.drop (k * 2)).set (k * 2) a).set (k * 2 + 1) b) = marks (k + 1) [a, b] ++ xs.drop ((k + 1) * 2) := by
  have hm : (marks k [a, b]).length = k * 2 := by rw [marks_len]; rfl
  rw [List.set_append_right _ _ (by omega), hm, Nat.sub_self, List.drop_eq_getElem_cons (show k * 2 < xs.length by omega), List.set_cons_zero, List.drop_eq_getElem_cons hk, List.set_append_right _ _ (by omega), hm, show k * 2 + 1 - k * 2 = 1 by omega, marks_succ, show (k + 1) * 2 = k * 2 + 1 + 1 by omega]
  simp only [List.append_assoc, List.cons_append, List.nil_append, List.set_cons_succ, List.set_cons_zero]
/-- the trace's own box stands -/
theorem TrI.tbox {w wr : World} {bb B i c hi tb : Nat} {l2 l2' l3 wt rt ov sv : Value} {ls ls' l3s : List Value} {outs : List Int} {stl : List Stp} {cs ts : Array Value} {t : TypeId} (h : TrI w wr bb B i l2 l2' l3 wt rt ov ls ls' l3s stl) (hT : TrS w c hi ov sv outs stl) (hbx : w.heap[bb]? = some (.cells cs 32 (0, 0))) (hr2 : w.ownsRow B 23 1 l2 ls.length ls) (htb : w.heap[tb]? = some (.cells ts t (0, 0))) (h1 : t ≠ 32) (h2 : t ≠ 23) (h3 : t ≠ 2) : wr.heap[tb]? = some (.cells ts t (0, 0)) := by
  refine (h.fr.block tb (Array.getElem?_eq_some_iff.1 htb).1 ⟨?_, own_ty hr2 htb h2, ?_⟩).trans htb
  · intro e
    subst e
    rw [hbx] at htb
    simp at htb
    exact h1 htb.2.symm
  · rintro (e | ⟨j, s', hj, e1, e2⟩)
    · exact own_ty hT.o htb h3 e
    · exact own_ty (hT.each s' (List.mem_of_getElem? e1)).1 htb h3 e2.symm
/-- what a trace's taking leaves: all blocks but the book's own and those of the trace -/
structure TF (B c hi : Nat) (w W : World) : Prop where
  below : Below B w W
  keep : ∀ k cur t, w.heap[k]? = some (.cells cur t (0, 0)) → t ≠ 32 → t ≠ 23 → t ≠ 55 → ((t ≠ 2 ∧ t ≠ 113) ∨ ¬ (c ≤ k ∧ k < hi)) → W.heap[k]? = w.heap[k]?
/-- what the writing of a list of steps leaves -/
theorem st_keep {w W W5 : World} {bb B n m k t : Nat} {pt xs : List Value} {l2 l3 l3' wt rt lv xx : Value} {ls l3s V : List Value} {cur : Array Value} (hK : BK w bb B l2 l3 wt rt ls l3s) (hl : w.ownsRow B 113 2 lv m xs) (h : AP w W B 113 n pt lv xx V) (hg : W.grownBy W5 l3.ownBlock) (hk : w.heap[k]? = some (.cells cur t (0, 0))) (h1 : t ≠ 32) (h2 : t ≠ 55) (h3 : t ≠ 113 ∨ some k ≠ lv.ownBlock) : (W5.setCell ⟨bb, 2, none⟩ l3').heap[k]? = w.heap[k]? := by
  have hkl := (Array.getElem?_eq_some_iff.1 hk).1
  have hz := h.fr.size
  have hne : k ≠ bb := by
    intro e
    subst e
    rw [hK.box] at hk
    simp at hk
    exact h1 hk.2.symm
  refine (Below.heap_setCell _ _ _ _ hne).trans ((hg.block k (by omega) (own_ty hK.r3 hk h2)).trans (h.fr.block k hkl ?_))
  rcases h3 with h3 | h3
  · exact own_ty hl hk h3
  · exact h3
theorem st_done {w W W5 : World} {bb B n m q3 : Nat} {xs : List Value} {l2 l3 l3' wt rt lv xx x y z : Value} {ls l3s : List Value} (hK : BK w bb B l2 l3 wt rt ls l3s) (hq3 : l3s.length = 4 * q3) (hl : w.ownsRow B 113 2 lv m xs) (hd : ∀ v ∈ l3s, ∀ k, v.ownBlock = some k → some k ≠ lv.ownBlock) (h : AP w W B 113 n [.int .i64 (-7 - (q3 : Int)), .slice none 0 0] lv xx ([lv] ++ [x] ++ [y] ++ [z])) (hg : W.grownBy W5 l3.ownBlock) (ho : W5.ownsRow B 55 1 l3' (l3s.length + 4) (l3s ++ [lv, x, y, z])) : BK (W5.setCell ⟨bb, 2, none⟩ l3') bb B l2 l3' wt rt ls (l3s ++ [lv, x, y, z]) := by
  have hz := h.fr.size
  have hz5 := hg.size
  have hbz := hK.lt
  have hb5 : W5.heap[bb]? = some (.cells (bookCells l2 l3 wt rt) 32 (0, 0)) := (hg.block bb (by omega) (own_ne_bx hK.r3 hK.box (by decide))).trans ((h.fr.block bb hbz (own_ne_bx hl hK.box (by decide))).trans hK.box)
  have hs := grown_self W5 bb 2 l3'
  have hr3W : W.ownsRow B 55 1 l3 l3s.length l3s := own_by hK.r3 (fun k cur hk hc => h.fr.block k (Array.getElem?_eq_some_iff.1 hc).1 (own_ty hl hc (by decide)))
  have hbW : W.heap[bb]? = some (.cells (bookCells l2 l3 wt rt) 32 (0, 0)) := (h.fr.block bb hbz (own_ne_bx hl hK.box (by decide))).trans hK.box
  refine ⟨?_, ?_, ?_, ?_, ?_, ?_⟩
  · rw [heap_setCell_same _ _ _ _ _ _ hb5]; rfl
  · exact own_by hK.r2 (fun k cur hk hc => st_keep hK hl h hg hc (by decide) (by decide) (Or.inl (by decide)))
  · rw [List.length_append]
    refine ho.kept hs ?_
    have := own_ne_bx ho hb5 (by decide)
    exact Or.inr (fun e => this e.symm)
  · intro i v hv
    have hm := hK.m2 i v hv
    refine hm.of_block (fun k hk => ?_)
    obtain ⟨cur, hc⟩ := hm.ty k hk
    exact st_keep hK hl h hg hc (by decide) (by decide) (Or.inl (by decide))
  · intro i v hv
    by_cases hi : i < l3s.length
    · rw [List.getElem?_append_left hi] at hv
      have hm := hK.m3 i v hv
      refine hm.of_block (fun k hk => ?_)
      obtain ⟨cur, hc⟩ := hm.ty k hk
      exact st_keep hK hl h hg hc (by decide) (by decide) (Or.inr (hd v (List.mem_of_getElem? hv) k hk))
    · rw [List.getElem?_append_right (by omega)] at hv
      have h4 : i - l3s.length < 4 := by have := (List.getElem?_eq_some_iff.1 hv).1; simpa using this
      have hiq : i / 4 = q3 := by omega
      unfold ptSt
      rw [hiq]
      obtain ⟨a, _, _⟩ := h.mks v (by simpa using List.mem_of_getElem? hv)
      refine a.of_block (fun k hk => ?_)
      obtain ⟨cur, hc⟩ := a.ty k hk
      have hkl := a.lt k hk
      refine (Below.heap_setCell _ _ _ _ ?_).trans (hg.block k hkl (own_ty hr3W hc (by decide)))
      intro e
      subst e
      rw [hbW] at hc
      simp at hc
  · have := hK.base; simp [World.setCell]; omega
/-- what the book's taking of a trace leaves -/
def TPost (bb B c hi Z : Nat) (wt rt : Value) (ls l3s : List Value) (n : Nat) (w W : World) : Prop := ∃ l2a l2c l3a l3c ls' l3s', ls'.length = ls.length + 4 + 4 * n ∧ l3s'.length = l3s.length + 4 ∧ BK W bb B (.slice l2a ls'.length l2c) (.slice l3a l3s'.length l3c) wt rt ls' l3s' ∧ (∀ v ∈ ls', v ∈ ls ∨ ∀ k, v.ownBlock = some k → k < hi ∨ Z ≤ k) ∧ (∀ v ∈ l3s', v ∈ l3s ∨ ∀ k, v.ownBlock = some k → k < hi ∨ Z ≤ k) ∧ TF B c hi w W
theorem tr_done {o om : Obj} {w wr W W5 : World} {bb B c hi Z n q3 : Nat} {l2a' l3a l3a' : Option Addr} {l2c' l3c l3c' : Nat} {wt rt ov sv xx x y z l20 : Value} {outs : List Int} {stl : List Stp} {ls ls' l3s : List Value}
    (hT : TrS (w.alloc o) c hi ov sv outs stl) (hK1 : BK (w.alloc o) bb B l20 (.slice l3a l3s.length l3c) wt rt ls l3s) (hI : TrI (w.alloc o) wr bb B stl.length l20 (.slice l2a' ls'.length l2c') (.slice l3a l3s.length l3c) wt rt ov ls ls' l3s stl)
    (hBw : B ≤ w.heap.size) (hbb : B ≤ bb) (hBc : B ≤ c) (hhi : hi ≤ Z) (hZ : Z ≤ w.heap.size) (hq3 : l3s.length = 4 * q3) (hc3 : ∀ v ∈ l3s, ∀ k, v.ownBlock = some k → k < c ∨ Z ≤ k)
    (h : AP (wr.alloc om) W B 113 n [.int .i64 (-7 - (q3 : Int)), .slice none 0 0] sv xx ([sv] ++ [x] ++ [y] ++ [z])) (hg : W.grownBy W5 (Value.slice l3a l3s.length l3c).ownBlock) (ho : W5.ownsRow B 55 1 (.slice l3a' (l3s.length + 4) l3c') (l3s.length + 4) (l3s ++ [sv, x, y, z])) : TPost bb B c hi Z wt rt ls l3s stl.length w (W5.setCell ⟨bb, 2, none⟩ (.slice l3a' (l3s.length + 4) l3c')) := by
  have hKr := hI.bk.below ((Below.refl _ _).alloc (Nat.le_refl _) om)
  have hsr := hI.steps hT hK1.box hK1.r2
  have hsm : (wr.alloc om).ownsRow B 113 2 sv stl.length (stCells stl) := (own_mono hsr hBc).alloc om
  have hd : ∀ v ∈ l3s, ∀ k, v.ownBlock = some k → some k ≠ sv.ownBlock := by
    intro v hv k hk e
    have h1 := (hT.s.lt k e.symm).1
    have h2 := hT.shi k e.symm
    have := hc3 v hv k hk
    omega
  have hlen : (l3s ++ [sv, x, y, z]).length = l3s.length + 4 := by simp
  have hfin := st_done hKr hq3 hsm hd h hg ho
  have hz1 := hI.fr.size
  have hz2 := h.fr.size
  have hz3 := hg.size
  have e1 : (w.alloc o).heap.size = w.heap.size + 1 := by simp
  have e2 : (wr.alloc om).heap.size = wr.heap.size + 1 := by simp
  have tk : ∀ k, Tk ov stl stl.length k → c ≤ k ∧ k < hi := by
    rintro k (e | ⟨j, s, _, hj, e⟩)
    · exact ⟨(hT.o.lt k e.symm).1, hT.ohi k e.symm⟩
    · obtain ⟨a1, _, q, a3, a4, _⟩ := hT.each s (List.mem_of_getElem? hj)
      rw [a3] at e
      cases e
      exact ⟨(a1.lt k a3).1, a4⟩
  have hkeep : ∀ k cur t, w.heap[k]? = some (.cells cur t (0, 0)) → t ≠ 32 → t ≠ 23 → t ≠ 55 → ((t ≠ 2 ∧ t ≠ 113) ∨ ¬ (c ≤ k ∧ k < hi)) → (W5.setCell ⟨bb, 2, none⟩ (.slice l3a' (l3s.length + 4) l3c')).heap[k]? = w.heap[k]? := by
    intro k cur t hk t1 t2 t3 t4
    have hkl := (Array.getElem?_eq_some_iff.1 hk).1
    have k1 : (w.alloc o).heap[k]? = w.heap[k]? := heap_alloc_old _ _ hkl
    have hk1 := k1.trans hk
    have k2 : wr.heap[k]? = (w.alloc o).heap[k]? := by
      refine hI.fr.block k (by omega) ⟨?_, own_ty hK1.r2 hk1 t2, ?_⟩
      · intro e
        subst e
        rw [hK1.box] at hk1
        simp at hk1
        exact t1 hk1.2.symm
      · intro e
        have := tk k e
        rcases t4 with t4 | t4
        · rcases e with e | ⟨j, s, _, hj, e⟩
          · exact own_ty hT.o hk1 t4.1 e
          · exact own_ty (hT.each s (List.mem_of_getElem? hj)).1 hk1 t4.1 e.symm
        · exact t4 this
    have hk2 := (k2.trans k1).trans hk
    have k3 : (wr.alloc om).heap[k]? = wr.heap[k]? := heap_alloc_old _ _ (by omega)
    refine (st_keep hKr hsm h hg (k3.trans hk2) t1 t3 ?_).trans (k3.trans (k2.trans k1))
    rcases t4 with t4 | t4
    · exact Or.inl t4.2
    · exact Or.inr (fun e => t4 ⟨(hT.s.lt k e.symm).1, hT.shi k e.symm⟩)
  refine ⟨l2a', l2c', l3a', l3c', ls', l3s ++ [sv, x, y, z], hI.len, hlen, by rw [hlen]; exact hfin, ?_, ?_, ⟨⟨?_, ?_, ?_, ?_, ?_⟩, hkeep⟩⟩
  · intro v hv
    rcases hI.vs v hv with a | ⟨q, ⟨a, b⟩ | a⟩
    · exact Or.inl a
    · refine Or.inr (fun k hk => ?_)
      rw [hk] at a
      cases a
      rcases b with b | b
      · exact Or.inl (tk _ b).2
      · exact Or.inr (by omega)
    · exact Or.inr (fun k hk => by rw [hk] at a; cases a)
  · intro v hv
    rcases List.mem_append.1 hv with a | a
    · exact Or.inl a
    · refine Or.inr (fun k hk => ?_)
      obtain ⟨_, _, b⟩ := h.mks v (by simpa using a)
      rcases b with b | ⟨q, b, hq⟩
      · exact Or.inl (hT.shi k (b.symm.trans hk))
      · rw [hk] at b
        cases b
        exact Or.inr (by omega)
  · exact hg.os.trans (h.fr.os.trans hI.fr.os)
  · exact hg.tape.trans (h.fr.tape.trans hI.fr.tape)
  · exact hg.output.trans (h.fr.output.trans hI.fr.output)
  · simp [World.setCell]; omega
  · intro k hk
    have hB := hK1.base
    have hwz : k < w.heap.size := by omega
    refine (Below.heap_setCell _ _ _ _ (show k ≠ bb by omega)).trans ((hg.block k (by omega) (fun e => ?_)).trans ((h.fr.block k (by omega) (fun e => ?_)).trans ((heap_alloc_old wr om (by omega)).trans ((hI.fr.block k (by omega) ⟨by omega, fun e => ?_, fun e => ?_⟩).trans (heap_alloc_old w o hwz)))))
    · have := (hK1.r3.lt k e.symm).1; omega
    · have := (hT.s.lt k e.symm).1; omega
    · have := (hK1.r2.lt k e.symm).1; omega
    · have := (tk k e).1; omega
set_option maxHeartbeats 4000000 in
set_option maxRecDepth 100000 in
theorem trace_any (bb B c hi Z q q3 : Nat) (en : Int) (oa sa l2a l3a : Option Addr) (oc sc l2c l3c : Nat) (outs : List Int) (stl : List Stp) (wt rt : Value) (ls l3s : List Value) (w : World)
    (hK : BK w bb B (.slice l2a ls.length l2c) (.slice l3a l3s.length l3c) wt rt ls l3s) (hT : TrS w c hi (.slice oa outs.length oc) (.slice sa stl.length sc) outs stl)
    (hBw : B ≤ w.heap.size) (hbb : B ≤ bb) (hBc : B ≤ c) (hhi : hi ≤ Z) (hZ : Z ≤ w.heap.size) (hq : ls.length = 4 * q) (hq3 : l3s.length = 4 * q3) (hL : ls.length ≤ 50000) (hL3 : l3s.length ≤ 50000)
    (hc : ∀ v ∈ ls, ∀ k, v.ownBlock = some k → k < c ∨ Z ≤ k) (hc3 : ∀ v ∈ l3s, ∀ k, v.ownBlock = some k → k < c ∨ Z ≤ k) :
    Calls Tryz.prog 31 #[.pointer (some ⟨bb, 0, none⟩), .agg #[.int .i64 en, .slice oa outs.length oc, .slice sa stl.length sc]] w fun e W => e = .returned (.tuple #[]) ∧ TPost bb B c hi Z wt rt ls l3s stl.length w W := by
  have hw1 : Below w.heap.size w (w.alloc (.cells #[.int .i64 en, .slice oa outs.length oc, .slice sa stl.length sc] 57)) := (Below.refl _ _).alloc (Nat.le_refl _) _
  have hK1 := hK.below hw1
  have hT1 := hT.below hw1
  have hbz := hK.lt
  have hdj : ∀ v ∈ ls, ∀ k, v.ownBlock = some k → some k ≠ (Value.slice oa outs.length oc).ownBlock := by
    intro v hv k hk e
    have h1 := (hT.o.lt k e.symm).1
    have h2 := hT.ohi k e.symm
    have := hc v hv k hk
    omega
  have HC := (show Hid _ from num_any hK1 hq (by omega) (own_mono hT1.o hBc) (by have := hT.ol; omega) hdj)
  obtain ⟨hbx1, hbx2⟩ := box_cells (heap_alloc_new w (.cells #[.int .i64 en, .slice oa outs.length oc, .slice sa stl.length sc] 57))
  have hsl := hT.sl
  have HW : Hid (BK (w.alloc (.cells #[.int .i64 en, .slice oa outs.length oc, .slice sa stl.length sc] 57)) bb B (.slice l2a ls.length l2c) (.slice l3a l3s.length l3c) wt rt ls l3s ∧ TrS (w.alloc (.cells #[.int .i64 en, .slice oa outs.length oc, .slice sa stl.length sc] 57)) c hi (.slice oa outs.length oc) (.slice sa stl.length sc) outs stl ∧ (∀ v ∈ ls, ∀ k, v.ownBlock = some k → k < c ∨ Z ≤ k) ∧ (∀ v ∈ l3s, ∀ k, v.ownBlock = some k → k < c ∨ Z ≤ k)) := ⟨hK1, hT1, hc, hc3⟩
  have HTB : Hid (∀ wr i l2' ls', TrI (w.alloc (.cells #[.int .i64 en, .slice oa outs.length oc, .slice sa stl.length sc] 57)) wr bb B i (.slice l2a ls.length l2c) l2' (.slice l3a l3s.length l3c) wt rt (.slice oa outs.length oc) ls ls' l3s stl → wr.heap[w.heap.size]? = some (.cells #[.int .i64 en, .slice oa outs.length oc, .slice sa stl.length sc] 57 (0, 0))) := fun wr i l2' ls' h => h.tbox hT1 hK1.box hK1.r2 (heap_alloc_new w _) (by decide) (by decide) (by decide)
  clear hw1 hK1 hT1 hK hT hc hc3 hdj
  have hdv : ((l3s.length : Nat) : Int).tdiv 4 = (q3 : Int) := by rw [hq3]; simp [Int.tdiv]
  obtain ⟨hwr1, hwr2⟩ := wrapm q3 (by omega)
  have HQ := (show Hid _ from And.intro hq hq3)
  clear hq hq3
  go_enter Tryz.func31, Tryz.ntmps31
  go_wp2_with (go_at_call 58; refine Calls.mono HC.out ?_; rintro e W1 ⟨rfl, l2a1, l2c1, ls1, hl1, hk1, hv1, hn1, hf1⟩)
  have HI0 : Hid (TrI (w.alloc (.cells #[.int .i64 en, .slice oa outs.length oc, .slice sa stl.length sc] 57)) W1 bb B 0 (.slice l2a ls.length l2c) (.slice l2a1 ls1.length l2c1) (.slice l3a l3s.length l3c) wt rt (.slice oa outs.length oc) ls ls1 l3s stl) := by
    refine ⟨hk1, by rw [hl1], ?_, hn1, hf1.mono (fun k _ hp => ⟨hp.1, fun e => hp.2.2 (Or.inl e), hp.2.1⟩)⟩
    intro v hv
    rcases hv1 v hv with h | h | ⟨k, h, hz⟩
    · exact Or.inl h
    · cases hb : (Value.slice oa outs.length oc).ownBlock with
      | none => exact Or.inr ⟨0, Or.inr (h.trans hb)⟩
      | some k => exact Or.inr ⟨k, Or.inl ⟨h.trans hb, Or.inl (Or.inl hb.symm)⟩⟩
    · exact Or.inr ⟨k, Or.inl ⟨h, Or.inr hz⟩⟩
  clear hl1 hk1 hv1 hn1 hf1 hbx1 hbx2 HC
  go_loopw [4] (fun i wr => ∃ k : Nat, i = .int .i64 k ∧ k ≤ stl.length ∧ Hid (∃ l2a' l2c' ls', TrI (w.alloc (.cells #[.int .i64 en, .slice oa outs.length oc, .slice sa stl.length sc] 57)) wr bb B k (.slice l2a ls.length l2c) (.slice l2a' ls'.length l2c') (.slice l3a l3s.length l3c) wt rt (.slice oa outs.length oc) ls ls' l3s stl)) (fun i _ => stl.length - (intOf i).toNat)
  case atStart => exact ⟨0, rfl, Nat.zero_le _, ⟨l2a1, l2c1, ls1, HI0.out⟩⟩
  case round =>
    obtain ⟨k, rfl, hk, HR⟩ := hrel
    obtain ⟨l2a', l2c', ls', hI⟩ := HR.out
    obtain ⟨ht1, ht2⟩ := box_cells (HTB.out _ _ _ _ hI)
    by_cases hlt : k < stl.length
    · as_aux_lemma =>
      have hki : (k : Int) < (stl.length : Int) := by omega
      obtain ⟨s, hs⟩ : ∃ s, stl[k]? = some s := ⟨_, List.getElem?_eq_getElem hlt⟩
      have hst := hI.steps HW.out.2.1 HW.out.1.box HW.out.1.r2
      obtain ⟨hrow, hdis⟩ := hI.row HW.out.2.1 HW.out.1.box HW.out.1.r2 (Z := Z) (by simp; omega) hhi HW.out.2.2.1 hs
      obtain ⟨va, vc, hva⟩ := sl_of_own hrow
      obtain ⟨g, rfl⟩ : ∃ g, sa = some ⟨g, 0, none⟩ := by
        rcases hst.2 with ⟨_, e⟩ | ⟨g, cap, cur, e, _⟩
        · omega
        · cases e; exact ⟨g, rfl⟩
      have c1 := hst.cells (g := g) rfl (k * 2 + 1) _ (stCells_at stl k s hs).2
      rw [add00, hva] at c1
      rw [hva] at hrow hdis
      have h8 := (HW.out.2.1.each s (List.mem_of_getElem? hs)).2.1
      have HC := (show Hid _ from num_any hI.bk (q := q + 1 + k) (by have := HQ.out.1; rw [hI.len]; omega) (by rw [hI.len]; omega) (own_mono hrow hBc) (by omega) hdis)
      have HH := (show Hid _ from And.intro hI (And.intro hs hva))
      clear hI hs hva hst hrow hdis h8 HR HI0
      go_wp2_with (go_at_call 58; refine Calls.mono HC.out ?_; rintro e W2 ⟨rfl, l2a2, l2c2, ls2, hl2, hk2, hv2, hn2, hf2⟩)
      have hnx := HH.out.1.next HH.out.2.1 hl2 hk2 (by rw [HH.out.2.2]; exact hv2) hn2 (by rw [HH.out.2.2]; exact hf2)
      exact ⟨⟨k + 1, rfl, by omega, ⟨l2a2, l2c2, ls2, hnx⟩⟩, by simp only [intOf]; omega⟩
    · obtain rfl : k = stl.length := by omega
      have hki : ¬ ((stl.length : Int) < (stl.length : Int)) := by omega
      obtain ⟨hb1, hb2⟩ := box_cells hI.bk.box
      simp only [bookCells] at hb1
      have hz1 : w.heap.size + 1 ≤ wr.heap.size := by have := hI.fr.size; simpa using this
      have n1 : w.heap.size ≠ wr.heap.size := by omega
      have n2 : bb ≠ wr.heap.size := by omega
      have n3 : wr.heap.size ≠ w.heap.size := by omega
      have n4 : wr.heap.size ≠ bb := by omega
      have HH := (show Hid _ from hI)
      have htb := HTB.out _ _ _ _ hI
      clear hI HR HI0
      go_upto_region 7 with fail
      clear ht1 ht2 hb1 hb2
      have hbm : Below wr.heap.size wr (wr.alloc (.cells #[.int .i64 (-7 - (q3 : Int)), .slice none 0 0] 113)) := (Below.refl _ _).alloc (Nat.le_refl _) _
      have hmb := heap_alloc_new wr (.cells #[.int .i64 (-7 - (q3 : Int)), .slice none 0 0] 113)
      have htm := (hbm.block w.heap.size (by omega)).trans htb
      have hbk := HH.out.bk.below hbm
      have hst := own_of_below (own_mono (HH.out.steps HW.out.2.1 HW.out.1.box HW.out.1.r2) hBc) hbm
      obtain ⟨Wm, hWm⟩ : ∃ Wm, Wm = wr.alloc (.cells #[.int .i64 (-7 - (q3 : Int)), .slice none 0 0] 113) := ⟨_, rfl⟩
      have hzm : Wm.heap.size = wr.heap.size + 1 := by rw [hWm]; simp
      rw [← hWm] at hmb htm hbk hst ⊢
      obtain ⟨mb, hme⟩ : ∃ mb, mb = wr.heap.size := ⟨_, rfl⟩
      rw [← hme] at hmb hzm ⊢
      have hmw : w.heap.size < mb := by omega
      have HM := (show Hid _ from And.intro hWm (And.intro hmb (And.intro hbk hst)))
      have hsvm : ∀ k, (Value.slice sa stl.length sc).ownBlock = some k → k ≠ mb := by
        intro k hk e
        have := ((HH.out.steps HW.out.2.1 HW.out.1.box HW.out.1.r2).lt k hk).2
        omega
      have HSV := (show Hid _ from hsvm)
      obtain ⟨ht1, ht2⟩ := box_cells htm
      clear hWm hmb hbk hst hsvm hbm htb htm hme hz1 n1 n2 n3 n4
      go_upto_region 9 with fail
      clear ht1 ht2
      go_loopw [7] (fun i wi => ∃ k : Nat, i = .int .i64 k ∧ k ≤ stl.length ∧ Hid (wi.ownsRow B 113 2 (.slice sa stl.length sc) stl.length (marks k [.int .i64 (-7 - (q3 : Int)), .slice none 0 0] ++ (stCells stl).drop (k * 2))) ∧ Hid (Wm.grownBy wi (Value.slice sa stl.length sc).ownBlock)) (fun i _ => stl.length - (intOf i).toNat)
      case atStart => exact ⟨0, rfl, Nat.zero_le _, (by show World.ownsRow _ _ _ _ _ _ _; rw [marks_zero, List.nil_append, Nat.zero_mul, List.drop_zero]; exact HM.out.2.2.2), ⟨rfl, rfl, rfl, Nat.le_refl _, fun _ _ _ => rfl⟩⟩
      case round =>
        obtain ⟨k, rfl, hk, HR, HG⟩ := hrel
        by_cases hlt : k < stl.length
        · have hki : (k : Int) < (stl.length : Int) := by omega
          obtain ⟨g, rfl⟩ : ∃ g, sa = some ⟨g, 0, none⟩ := by
            rcases HR.out.2 with ⟨_, e⟩ | ⟨g, cap, cur, e, _⟩
            · omega
            · cases e; exact ⟨g, rfl⟩
          have hmi := (HG.out.block mb (by omega) (fun e => HSV.out _ e.symm rfl)).trans HM.out.2.1
          obtain ⟨m1, m2⟩ := box_cells hmi
          obtain ⟨⟨u0, c0⟩, ⟨u1, c1⟩, hfz⟩ : (∃ u, wr.cell? ⟨g, k * 2, none⟩ = some u) ∧ (∃ u, wr.cell? ⟨g, k * 2 + 1, none⟩ = some u) ∧ ∀ o, wr.frozen? ⟨g, o, none⟩ = false := by
            rcases HR.out.2 with ⟨e, _⟩ | ⟨g', cap, cur, e, _, hg, hc, _, hs, _⟩
            · cases e
            · cases e
              refine ⟨⟨cur[k * 2]'(by omega), by simp [World.cell?, hg]⟩, ⟨cur[k * 2 + 1]'(by omega), by simp [World.cell?, hg]⟩, fun o => by simp [World.frozen?, hg]⟩
          go_wp2_with fail
          obtain ⟨s1, s2⟩ := HR.out.stored (k * 2) (.int .i64 (-7 - (q3 : Int)))
          obtain ⟨s3, s4⟩ := s1.stored (k * 2 + 1) (.slice none 0 0)
          have hcl := HM.out.2.2.2.1
          rw [set_marks2 k _ _ _ (by omega)] at s3
          exact ⟨⟨k + 1, rfl, by omega, s3, HG.out.trans (s2.trans s4)⟩, by simp only [intOf]; omega⟩
        · obtain rfl : k = stl.length := by omega
          have hki : ¬ ((stl.length : Int) < (stl.length : Int)) := by omega
          have hfin := HR.out
          have hcl := HM.out.2.2.2.1
          rw [List.drop_eq_nil_of_le (by omega), List.append_nil] at hfin
          have hap : AP Wm wr B 113 stl.length [.int .i64 (-7 - (q3 : Int)), .slice none 0 0] (.slice sa stl.length sc) (.slice sa stl.length sc) [.slice sa stl.length sc] := by
            refine ⟨hfin, ?_, Or.inl rfl, Fr.of_grown HG.out (fun _ _ h => h)⟩
            intro v hv
            simp only [List.mem_singleton] at hv
            subst hv
            exact ⟨MkAt.of_own hfin, Nat.le_refl _, Or.inl rfl⟩
          have hmbv : some mb ≠ (Value.slice sa stl.length sc).ownBlock := fun e => HSV.out _ e.symm rfl
          have hbbv : some bb ≠ (Value.slice sa stl.length sc).ownBlock := own_ne_bx HM.out.2.2.2 HM.out.2.2.1.box (by decide)
          have HNB := (show Hid _ from And.intro hmbv hbbv)
          obtain ⟨m01, m02⟩ := box_cells ((hap.fr.block mb (by rw [hzm]; exact Nat.lt_succ_self _) hmbv).trans HM.out.2.1)
          have HA := (show Hid _ from hap)
          have hBm : B ≤ Wm.heap.size := HM.out.2.2.1.base
          clear hfin HR hap HG hcl hmbv hbbv
          obtain ⟨i1, hi0, hz0, hz1, hz2⟩ := info_parts infoStep
          have HI : Hid (Tryz.prog.info? 113 = some i1 ∧ i1.zero = some (.agg #[.int .i64 0, .slice none 0 0]) ∧ i1.size = 2 ∧ i1.bytes = 32) := ⟨hi0, hz0, hz1, hz2⟩
          clear hi0 hz0 hz1 hz2
          obtain ⟨i2, hi0, hz0, hz1, hz2⟩ := info_parts infoSts
          have HI2 : Hid (Tryz.prog.info? 55 = some i2 ∧ i2.zero = some (.slice none 0 0) ∧ i2.size = 1 ∧ i2.bytes = 24) := ⟨hi0, hz0, hz1, hz2⟩
          clear hi0 hz0 hz1 hz2
          obtain ⟨b1, b2, b3, b4, b5, b6⟩ := sizes32 stl.length hsl
          obtain ⟨b7, b8⟩ := sizes24 l3s.length hL3
          have hbm : bb < Wm.heap.size := HM.out.2.2.1.lt
          have hmm : mb < Wm.heap.size := by rw [hzm]; exact Nat.lt_succ_self _
          go_upto_region 15 with (first
            | (at_builtin; refine wpList_append_keep _ rfl (.tmp 50) (.tmp 52) 55 rfl B 113 i1 (.agg #[.int .i64 0, .slice none 0 0]) 2 32 Tryz.underlying55 HI.out.1 HI.out.2.1 HI.out.2.2.1 HI.out.2.2.2 rfl (by decide) (.slice sa stl.length sc) (stl.length) (marks (stl.length) [.int .i64 (-7 - (q3 : Int)), .slice none 0 0]) rfl (HA.out.row.alloc _) ⟨wr.heap.size, 0, none⟩ 1 1 [.int .i64 (-7 - (q3 : Int)), .slice none 0 0] rfl rfl (cell_two _ _ _ _) (by intro u hu; simp at hu; rcases hu with rfl | rfl <;> rfl) b1 b2 (HA.out.base hBm _) ?_; intro x W1 o1 k1 g1 n1; have hap1 := HA.out.step o1 k1 g1 n1; obtain ⟨xa, xc, rfl⟩ := sl_of_own o1; obtain ⟨m11, m12⟩ := box_cells ((hap1.fr.block mb hmm HNB.out.1).trans HM.out.2.1); have HA1 := (show Hid _ from hap1); clear o1 k1 g1 n1 hap1)
            | (at_builtin; refine wpList_append_keep _ rfl (.tmp 54) (.tmp 56) 55 rfl B 113 i1 (.agg #[.int .i64 0, .slice none 0 0]) 2 32 Tryz.underlying55 HI.out.1 HI.out.2.1 HI.out.2.2.1 HI.out.2.2.2 rfl (by decide) (.slice xa (stl.length + 1) xc) (stl.length + 1) (marks (stl.length + 1) [.int .i64 (-7 - (q3 : Int)), .slice none 0 0]) rfl (HA1.out.row.alloc _) ⟨W1.heap.size, 0, none⟩ 1 1 [.int .i64 (-7 - (q3 : Int)), .slice none 0 0] rfl rfl (cell_two _ _ _ _) (by intro u hu; simp at hu; rcases hu with rfl | rfl <;> rfl) b3 b4 (HA1.out.base hBm _) ?_; intro y W2 o1 k1 g1 n1; have hap1 := HA1.out.step o1 k1 g1 n1; obtain ⟨ya, yc, rfl⟩ := sl_of_own o1; obtain ⟨m21, m22⟩ := box_cells ((hap1.fr.block mb hmm HNB.out.1).trans HM.out.2.1); have HA2 := (show Hid _ from hap1); clear o1 k1 g1 n1 hap1)
            | (at_builtin; refine wpList_append_keep _ rfl (.tmp 58) (.tmp 60) 55 rfl B 113 i1 (.agg #[.int .i64 0, .slice none 0 0]) 2 32 Tryz.underlying55 HI.out.1 HI.out.2.1 HI.out.2.2.1 HI.out.2.2.2 rfl (by decide) (.slice ya (stl.length + 1 + 1) yc) (stl.length + 1 + 1) (marks (stl.length + 1 + 1) [.int .i64 (-7 - (q3 : Int)), .slice none 0 0]) rfl (HA2.out.row.alloc _) ⟨W2.heap.size, 0, none⟩ 1 1 [.int .i64 (-7 - (q3 : Int)), .slice none 0 0] rfl rfl (cell_two _ _ _ _) (by intro u hu; simp at hu; rcases hu with rfl | rfl <;> rfl) b5 b6 (HA2.out.base hBm _) ?_; intro z W3 o1 k1 g1 n1; have hap1 := HA2.out.step o1 k1 g1 n1; obtain ⟨za, zc, rfl⟩ := sl_of_own o1; obtain ⟨m31, m32⟩ := box_cells ((hap1.fr.block mb hmm HNB.out.1).trans HM.out.2.1); have HA3 := (show Hid _ from hap1); clear o1 k1 g1 n1 hap1))
          have hbx3 : W3.heap[bb]? = _ := (HA3.out.fr.block bb hbm HNB.out.2).trans HM.out.2.2.1.box
          have hr3 : W3.ownsRow B 55 1 (.slice l3a l3s.length l3c) l3s.length l3s := own_by HM.out.2.2.1.r3 (fun k cur hk hc => HA3.out.fr.block k (Array.getElem?_eq_some_iff.1 hc).1 (own_ty HM.out.2.2.2 hc (by decide)))
          have hne3 : some bb ≠ (Value.slice l3a l3s.length l3c).ownBlock := own_ne_bx HM.out.2.2.1.r3 HM.out.2.2.1.box (by decide)
          obtain ⟨x1, x2⟩ := box_cells hbx3
          simp only [bookCells] at x1
          have HX3 := (show Hid _ from And.intro hbx3 (And.intro hr3 hne3))
          have hB3 : B ≤ (W3.alloc (.cells #[.slice sa stl.length sc, .slice xa (stl.length + 1) xc, .slice ya (stl.length + 1 + 1) yc, .slice za (stl.length + 1 + 1 + 1) zc] 55)).heap.size := HA3.out.base hBm _
          clear hbx3 hr3 hne3 m01 m02 m11 m12 m21 m22 m31 m32
          go_wp2_with (at_builtin; refine wpList_append_own_at _ rfl (.tmp 66) (.tmp 71) 27 rfl B 55 i2 (.slice none 0 0) 1 24 Tryz.underlying27 HI2.out.1 HI2.out.2.1 HI2.out.2.2.1 HI2.out.2.2.2 rfl (by decide) (.slice l3a l3s.length l3c) l3s.length l3s rfl (HX3.out.2.1.alloc _) ⟨W3.heap.size, 0, none⟩ 4 4 [.slice sa stl.length sc, .slice xa (stl.length + 1) xc, .slice ya (stl.length + 1 + 1) yc, .slice za (stl.length + 1 + 1 + 1) zc] rfl rfl (cell_four _ _ _ _ _ _) (by intro u hu; simp at hu; rcases hu with rfl | rfl | rfl | rfl <;> rfl) b7 b8 hB3 ?_; intro l3' W5 o5 g5 _ n5; obtain ⟨l3a', l3c', rfl⟩ := sl_of_own o5; have hga := (World.grownBy_alloc W3 (.cells #[.slice sa stl.length sc, .slice xa (stl.length + 1) xc, .slice ya (stl.length + 1 + 1) yc, .slice za (stl.length + 1 + 1 + 1) zc] 55) _).trans g5; have hz3 := HA3.out.fr.size; obtain ⟨y1, y2⟩ := box_cells ((hga.block bb (Nat.lt_of_lt_of_le hbm hz3) HX3.out.2.2).trans HX3.out.1); simp only [bookCells] at y1)
          go_end0
          refine ⟨rfl, ?_⟩
          have hAA := HA3.out
          rw [HM.out.1] at hAA
          exact tr_done HW.out.2.1 HW.out.1 HH.out hBw hbb hBc hhi hZ HQ.out.2 HW.out.2.2.2 hAA hga o5
end Go.Proofs.YtmipbiligijcpaaGreatDoor
