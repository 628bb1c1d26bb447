/- The book takes a list of values. -/
import Derived.Test.YtmipbiligijcpaaB2
import Derived.ArgAppend
import Derived.Test.YtmipbiligijcpaaY3
import Derived.Test.YtmipbiligijcpaaF2
namespace Go.Proofs.Ytmipbiligijcpaa
set_option linter.unusedVariables false
set_option linter.unusedSimpArgs false
open Go.RowKit Go.Proofs Go.Maps

def lenV (v : Value) : Nat := match v with | .slice _ n _ => n | _ => 0
theorem run_append_keep {P : Program} (w : World) (base : Nat) (t ty e : TypeId) (i : TypeInfo) (z : Value) (size bytes : Nat) (ht : P.underlying t = some (.slice e)) (hi : P.info? e = some i) (hz : i.zero = some z)
    (hsize : i.size = size) (hby : i.bytes = bytes) (hzs : z.cells.size = size) (hsz : 0 < size)
    (v : Value) (n : Nat) (xs : List Value) (hown : w.ownsRow base e size v n xs)
    (a : Addr) (m c : Nat) (news : List Value) (hl : news.length = m * size) (hnews : ∀ j u, news[j]? = some u → w.cell? (a.add j) = some u) (h1 : ∀ u ∈ news, u.oneCell' = true)
    (h63 : n + m ≤ maxLen) (hbytes : (n + m) * bytes ≤ 140737488355328) (hbase : base ≤ w.heap.size) :
    ∃ v' w', (Builtin.append_ #[t, t] ty #[v, .slice (some a) m c]).run P w = .ok v' w' ∧ w'.ownsRow base e size v' (n + m) (xs ++ news) ∧ w'.ownsRow base e size v n xs ∧ w.grownBy w' v.ownBlock ∧ (v'.ownBlock = v.ownBlock ∨ v'.ownBlock = some w.heap.size) := by
  obtain ⟨v', w', hrun, r1, r2, _, r4⟩ := run_append_own_at (P := P) w base t ty e i z size bytes ht hi hz hsize hby hzs hsz v n xs hown a m c news hl hnews h1 h63 hbytes hbase
  refine ⟨v', w', hrun, r1, ?_, r2, r4⟩
  have hxl := hown.1
  rcases hown.2 with ⟨rfl, rfl⟩ | ⟨g, cap, cur, rfl, hb, hg, hc, hm, hs, htk⟩
  · obtain rfl : xs = [] := List.eq_nil_of_length_eq_zero (by simpa using hxl)
    exact World.ownsRow_nil _ _ _ _
  · by_cases hroom : n + m ≤ cap
    · have hin : ∀ j, j < news.length → 0 + n * i.size + j < cur.size := by
        intro j hj
        rw [hs, hsize]
        have h2 : (n + m) * size ≤ cap * size := Nat.mul_le_mul_right _ hroom
        rw [Nat.add_mul] at h2
        omega
      have hr := run_append_room_cells (P := P) w t ty e i ht hi g 0 n cap a m c news (by rw [hsize]; exact hl) hnews h1 hroom (by
        intro j hj
        simp only [World.cell?, hg]
        rw [Array.getElem?_eq_getElem (hin j hj)]
        rfl) (by
        intro j hj
        simp [World.frozen?, hg])
      rw [hr] at hrun
      cases hrun
      rcases r1.2 with ⟨e1, _⟩ | ⟨g', cap', cur', e1, _, hg', hc', hm', hs', htk'⟩
      · cases e1
      · cases e1
        refine ⟨hxl, Or.inr ⟨g, cap, cur', rfl, hb, hg', hc, hm, hs', ?_⟩⟩
        have h2 := congrArg (List.take (n * size)) htk'
        rw [List.take_take, Nat.min_eq_left (Nat.mul_le_mul_right _ (by omega)), List.take_left' hxl] at h2
        exact h2
    · obtain ⟨v2, w2, hrun2, _, g2⟩ := run_append_arg_grows (P := P) w t ty e i z size bytes ht hi hz hsize hby hzs hsz ⟨g, 0, none⟩ n cap xs hxl (hown.cells rfl) a m c news hl hnews (by omega) h63 hbytes
      rw [hrun2] at hrun
      cases hrun
      exact hown.kept g2 (Or.inr (by simp [Value.ownBlock]))
theorem wpList_append_keep {P : Program} (w : World) {ops : Array Oper} {rest : List Oper} {o : Oper} {a : Act} {Q : Exit → Act → World → Prop} (hgd : o.guard = none) (s x : Operand) (t : TypeId)
    (ho : o.op = .call { callee := .builtin .append, args := #[s, x], argTypes := #[t, t] })
    (base : Nat) (e : TypeId) (i : TypeInfo) (z : Value) (size bytes : Nat) (ht : P.underlying t = some (.slice e)) (hi : P.info? e = some i) (hz : i.zero = some z)
    (hsize : i.size = size) (hby : i.bytes = bytes) (hzs : z.cells.size = size) (hsz : 0 < size)
    (v : Value) (n : Nat) (xs : List Value) (hs : a.eval s = v) (hown : w.ownsRow base e size v n xs)
    (ad : Addr) (m c : Nat) (news : List Value) (hx : a.eval x = .slice (some ad) m c) (hl : news.length = m * size) (hnews : ∀ j u, news[j]? = some u → w.cell? (ad.add j) = some u) (h1 : ∀ u ∈ news, u.oneCell' = true)
    (h63 : n + m ≤ maxLen) (hbytes : (n + m) * bytes ≤ 140737488355328) (hbase : base ≤ w.heap.size)
    (h : ∀ v' w', w'.ownsRow base e size v' (n + m) (xs ++ news) → w'.ownsRow base e size v n xs → w.grownBy w' v.ownBlock → (v'.ownBlock = v.ownBlock ∨ v'.ownBlock = some w.heap.size) → wpList P ops Q rest (a.put o.dst v') w') :
    wpList P ops Q (o :: rest) a w := by
  refine wpList_plain hgd fun K hK => ?_
  obtain ⟨v', w', hr, h2, h3, h4, h5⟩ := run_append_keep (P := P) w base t o.type e i z size bytes ht hi hz hsize hby hzs hsz v n xs hown ad m c news hl hnews h1 h63 hbytes hbase
  unfold Oper.wp execOp
  simp only [ho, resolve, invoke, builtin, Sem.run_bind, Sem.run_pure, Result.andThen_ok, List.map_toArray, List.map_cons, List.map_nil, hs, hx, hr]
  exact hK _ _ (h v' w' h2 h3 h4 h5)

def marks (n : Nat) (pt : List Value) : List Value := (List.replicate n pt).flatten
theorem marks_len (n : Nat) (pt : List Value) : (marks n pt).length = n * pt.length := by
  unfold marks
  rw [List.length_flatten]
  simp
theorem marks_zero (pt : List Value) : marks 0 pt = [] := rfl
theorem marks_succ (n : Nat) (pt : List Value) : marks (n + 1) pt = marks n pt ++ pt := by
  unfold marks
  rw [List.replicate_succ', List.flatten_append]
  simp
theorem marks_take (n m : Nat) (pt : List Value) (h : n ≤ m) : (marks m pt).take (n * pt.length) = marks n pt := by
  obtain ⟨d, rfl⟩ : ∃ d, m = n + d := ⟨m - n, by omega⟩
  have : marks (n + d) pt = marks n pt ++ marks d pt := by
    unfold marks
    rw [← List.replicate_append_replicate, List.flatten_append]
  rw [this, List.take_left' (marks_len n pt)]
theorem marks_at (n : Nat) (pt : List Value) (j i : Nat) (hj : j < n) (hi : i < pt.length) : (marks n pt)[j * pt.length + i]? = pt[i]? := by
  have h1 := marks_take j n pt (by omega)
  have h2 := marks_take (j + 1) n pt hj
  rw [marks_succ] at h2
  have h3 : ((marks n pt).take ((j + 1) * pt.length))[j * pt.length + i]? = pt[i]? := by
    rw [h2, List.getElem?_append_right (by rw [marks_len]; omega), marks_len]
    congr 1
    omega
  rw [List.getElem?_take, if_pos (by rw [Nat.add_mul]; omega)] at h3
  exact h3
/-- a list that reads as its owner wrote it -/
def MkAt (W : World) (t : TypeId) (pt : List Value) (v : Value) : Prop := (v = .slice none 0 0) ∨ ∃ b n c cur, v = .slice (some ⟨b, 0, none⟩) n c ∧ W.heap[b]? = some (.cells cur t (0, 0)) ∧ cur.toList.take (n * pt.length) = marks n pt ∧ n ≤ maxLen
theorem MkAt.of_own {W : World} {B t n : Nat} {pt : List Value} {v : Value} (h : W.ownsRow B t pt.length v n (marks n pt)) : MkAt W t pt v := by
  rcases h.2 with ⟨e, _⟩ | ⟨g, cap, cur, e, _, hg, hc, hm, _, ht⟩
  · exact Or.inl e
  · exact Or.inr ⟨g, n, cap, cur, e, hg, ht, Nat.le_trans hc hm⟩
theorem MkAt.of_block {W W' : World} {t : TypeId} {pt : List Value} {v : Value} (h : MkAt W t pt v) (hb : ∀ k, v.ownBlock = some k → W'.heap[k]? = W.heap[k]?) : MkAt W' t pt v := by
  rcases h with e | ⟨b, n, c, cur, rfl, h1, h2⟩
  · exact Or.inl e
  · exact Or.inr ⟨b, n, c, cur, rfl, (hb b rfl).trans h1, h2⟩
theorem MkAt.lt {W : World} {t : TypeId} {pt : List Value} {v : Value} (h : MkAt W t pt v) (k : Nat) (hk : v.ownBlock = some k) : k < W.heap.size := by
  rcases h with rfl | ⟨b, n, c, cur, rfl, h1, h2⟩
  · cases hk
  · cases hk; exact (Array.getElem?_eq_some_iff.1 h1).1
theorem MkAt.ty {W : World} {t : TypeId} {pt : List Value} {v : Value} (h : MkAt W t pt v) (k : Nat) (hk : v.ownBlock = some k) : ∃ cur, W.heap[k]? = some (.cells cur t (0, 0)) := by
  rcases h with rfl | ⟨b, n, c, cur, rfl, h1, h2⟩
  · cases hk
  · cases hk; exact ⟨cur, h1⟩
/-- one is put behind the row x: what was marked stays so -/
theorem MkAt.step {W W' : World} {B t n : Nat} {pt : List Value} {v x : Value} (h : MkAt W t pt v) (hx : W'.ownsRow B t pt.length x n (marks n pt)) (hg : W.grownBy W' x.ownBlock) (hl : lenV v ≤ n) : MkAt W' t pt v := by
  by_cases hv : v.ownBlock = x.ownBlock
  · rcases h with e | ⟨b, m, c, cur, rfl, h1, h2⟩
    · exact Or.inl e
    · obtain ⟨h2, hmx⟩ := h2
      have hl' : m ≤ n := hl
      rcases hx.2 with ⟨rfl, _⟩ | ⟨g, cap, cur', rfl, _, hg', _, _, _, ht⟩
      · cases hv
      · have hbg : b = g := by simpa [Value.ownBlock] using hv
        subst hbg
        refine Or.inr ⟨b, m, c, cur', rfl, hg', ?_, hmx⟩
        rw [← marks_take m n pt hl', ← ht, List.take_take, Nat.min_eq_left (Nat.mul_le_mul_right _ hl')]
  · exact h.of_block (fun k hk => hg.block k (h.lt k hk) (by rw [← hk]; exact hv))
theorem MkAt.form {W : World} {t : TypeId} {pt : List Value} {v : Value} (h : MkAt W t pt v) : ∃ ao n c, v = .slice ao n c ∧ n ≤ maxLen ∧ ∀ j i u, j < n → pt[i]? = some u → ∃ b, ao = some ⟨b, 0, none⟩ ∧ W.cell? ⟨b, j * pt.length + i, none⟩ = some u := by
  rcases h with rfl | ⟨b, n, c, cur, rfl, h1, h2⟩
  · exact ⟨none, 0, 0, rfl, Nat.zero_le _, fun j i u hj => by omega⟩
  · obtain ⟨h2, hmx⟩ := h2
    refine ⟨_, n, c, rfl, hmx, fun j i u hj hi => ⟨b, rfl, ?_⟩⟩
    have hil := (List.getElem?_eq_some_iff.1 hi).1
    have h3 := marks_at n pt j i hj hil
    rw [← h2, List.getElem?_take, if_pos (by have := Nat.mul_le_mul_right pt.length (show j + 1 ≤ n from hj); rw [Nat.add_mul] at this; omega), hi] at h3
    simp only [World.cell?, h1]
    simpa using h3
theorem own_ne_bx {w : World} {bb B n e size : Nat} {v : Value} {xs : List Value} {cs : Array Value} {t : TypeId} (h : w.ownsRow B e size v n xs) (hb : w.heap[bb]? = some (.cells cs t (0, 0))) (he : e ≠ t) : some bb ≠ v.ownBlock := by
  intro e0
  obtain ⟨c1, f1, h1⟩ := own_cells h bb e0.symm
  rw [h1] at hb
  simp at hb
  exact he hb.2.1
/-- the row l, and what was put behind it, one after another -/
structure AP (w W : World) (B t n : Nat) (pt : List Value) (l x : Value) (V : List Value) : Prop where
  row : W.ownsRow B t pt.length x n (marks n pt)
  mks : ∀ v ∈ V, MkAt W t pt v ∧ lenV v ≤ n ∧ (v.ownBlock = l.ownBlock ∨ ∃ q, v.ownBlock = some q ∧ w.heap.size ≤ q)
  xb : x.ownBlock = l.ownBlock ∨ ∃ q, x.ownBlock = some q ∧ w.heap.size ≤ q
  fr : Fr (fun k => some k ≠ l.ownBlock) w W
theorem AP.base {w W : World} {B t n : Nat} {pt : List Value} {l x : Value} {V : List Value} (h : AP w W B t n pt l x V) (hB : B ≤ w.heap.size) (o : Obj) : B ≤ (W.alloc o).heap.size := by
  have := h.fr.size
  simp
  omega
theorem AP.step {w W W2 : World} {B t n : Nat} {pt : List Value} {l x x' : Value} {V : List Value} {o : Obj} (h : AP w W B t n pt l x V) (h1 : W2.ownsRow B t pt.length x' (n + 1) (marks n pt ++ pt)) (h2 : W2.ownsRow B t pt.length x n (marks n pt)) (hg : (W.alloc o).grownBy W2 x.ownBlock) (hn : x'.ownBlock = x.ownBlock ∨ x'.ownBlock = some (W.alloc o).heap.size) : AP w W2 B t (n + 1) pt l x' (V ++ [x']) := by
  have hga : W.grownBy W2 x.ownBlock := (World.grownBy_alloc W o _).trans hg
  rw [← marks_succ] at h1
  have hsz := h.fr.size
  have hxb : x'.ownBlock = l.ownBlock ∨ ∃ q, x'.ownBlock = some q ∧ w.heap.size ≤ q := by
    rcases hn with e | e
    · rw [e]; exact h.xb
    · exact Or.inr ⟨_, e, by simp; omega⟩
  refine ⟨h1, ?_, hxb, ?_⟩
  · intro v hv
    rcases List.mem_append.1 hv with hv | hv
    · obtain ⟨a, b, c⟩ := h.mks v hv
      exact ⟨a.step h2 hga b, by omega, c⟩
    · simp only [List.mem_singleton] at hv
      subst hv
      refine ⟨MkAt.of_own h1, ?_, hxb⟩
      obtain ⟨a, c, rfl⟩ := sl_of_own h1
      exact Nat.le_refl _
  · refine h.fr.grown hga (fun k hk hp e => ?_)
    rcases h.xb with e2 | ⟨q, e2, hq⟩
    · exact hp (e.trans e2)
    · rw [e2] at e
      cases e
      omega
theorem cell_four (w : World) (a b c d : Value) (t : TypeId) : ∀ j u, [a, b, c, d][j]? = some u → (w.alloc (.cells #[a, b, c, d] t)).cell? ((⟨w.heap.size, 0, none⟩ : Addr).add j) = some u := by
  intro j u hj
  match j, hj with
  | 0, hj => simp at hj; subst hj; simp [Addr.add]
  | 1, hj => simp at hj; subst hj; simp [Addr.add]
  | 2, hj => simp at hj; subst hj; simp [Addr.add]
  | 3, hj => simp at hj; subst hj; simp [Addr.add]
theorem own_ty {w : World} {B e size n k t : Nat} {v : Value} {xs : List Value} {cur : Array Value} (h : w.ownsRow B e size v n xs) (hk : w.heap[k]? = some (.cells cur t (0, 0))) (ht : t ≠ e) : some k ≠ v.ownBlock := by
  intro e0
  obtain ⟨c1, f1, h1⟩ := own_cells h k e0.symm
  rw [h1] at hk
  simp at hk
  exact ht hk.2.1.symm
theorem own_tyof {w : World} {B e size n k : Nat} {v : Value} {xs : List Value} (h : w.ownsRow B e size v n xs) (hk : v.ownBlock = some k) : ∃ cur, w.heap[k]? = some (.cells cur e (0, 0)) := by
  rcases h.2 with ⟨rfl, _⟩ | ⟨g, cap, cur, rfl, _, hg, _⟩
  · cases hk
  · cases hk; exact ⟨cur, hg⟩
theorem own_by {w W : World} {B e size n : Nat} {v : Value} {xs : List Value} (ho : w.ownsRow B e size v n xs) (hk : ∀ k cur, v.ownBlock = some k → w.heap[k]? = some (.cells cur e (0, 0)) → W.heap[k]? = w.heap[k]?) : W.ownsRow B e size v n xs := by
  refine ⟨ho.1, ?_⟩
  rcases ho.2 with e0 | ⟨g, cap, cur, e1, c1, c2, c3⟩
  · exact Or.inl e0
  · subst e1
    exact Or.inr ⟨g, cap, cur, rfl, c1, (hk g cur rfl c2).trans c2, c3⟩
/-- what the writing of a list leaves: the list, and what stands behind it, read as they were written -/
structure PutS (w W : World) (bb B : Nat) (cs' : Array Value) (te tl : TypeId) (lv lj lj' : Value) (ls pt : List Value) (x y z : Value) : Prop where
  box : W.heap[bb]? = some (.cells cs' 34 (0, 0))
  row : W.ownsRow B tl 1 lj' (ls.length + 4) (ls ++ [lv, x, y, z])
  mks : ∀ v ∈ [lv, x, y, z], MkAt W te pt v ∧ (v.ownBlock = lv.ownBlock ∨ ∃ q, v.ownBlock = some q ∧ w.heap.size ≤ q)
  new : lj'.ownBlock = lj.ownBlock ∨ ∃ q, lj'.ownBlock = some q ∧ w.heap.size ≤ q
  fr : Fr (fun k => k ≠ bb ∧ some k ≠ lv.ownBlock ∧ some k ≠ lj.ownBlock) w W
theorem put_done {o : Obj} {w W W5 : World} {bb B n off te tl : Nat} {cs : Array Value} {lv lj lj' x y z xx : Value} {ls pt : List Value} (h : AP w W B te n pt lv xx ([lv] ++ [x] ++ [y] ++ [z])) (hbox : W.heap[bb]? = some (.cells cs 34 (0, 0))) (hr : W.ownsRow B tl 1 lj ls.length ls) (hne : some bb ≠ lj.ownBlock) (hbz : bb < w.heap.size) (hg : W.grownBy W5 lj.ownBlock) (ho : W5.ownsRow B tl 1 lj' (ls.length + 4) (ls ++ [lv, x, y, z])) (hn : lj'.ownBlock = lj.ownBlock ∨ lj'.ownBlock = some (W.alloc o).heap.size) (t1 : te ≠ tl) (t2 : te ≠ 34) (t3 : tl ≠ 34) : PutS w (W5.setCell ⟨bb, off, none⟩ lj') bb B (cs.setIfInBounds off lj') te tl lv lj lj' ls pt x y z := by
  have hz := h.fr.size
  have hb5 : W5.heap[bb]? = some (.cells cs 34 (0, 0)) := (hg.block bb (by omega) hne).trans hbox
  have hs := grown_self W5 bb off lj'
  refine ⟨?_, ?_, ?_, ?_, ?_⟩
  · rw [heap_setCell_same _ _ _ _ _ _ hb5]
  · refine ho.kept hs ?_
    have := own_ne_bx ho hb5 t3
    exact Or.inr (fun e => this e.symm)
  · intro v hv
    obtain ⟨a, _, c⟩ := h.mks v (by simpa using hv)
    refine ⟨a.of_block (fun k hk => ?_), c⟩
    obtain ⟨cur, hc⟩ := a.ty k hk
    have hkl := a.lt k hk
    have e1 : some k ≠ lj.ownBlock := own_ty hr hc t1
    have e2 : k ≠ bb := by
      intro e
      subst e
      rw [hbox] at hc
      simp at hc
      exact t2 hc.2.symm
    exact (Below.heap_setCell _ _ _ _ e2).trans (hg.block k hkl e1)
  · rcases hn with e | e
    · exact Or.inl e
    · exact Or.inr ⟨_, e, by simp; omega⟩
  · refine (h.fr.mono (Q := fun k => k ≠ bb ∧ some k ≠ lv.ownBlock ∧ some k ≠ lj.ownBlock) (fun k _ hp => hp.2.1)).trans (Q := fun k => k ≠ bb ∧ some k ≠ lj.ownBlock) ?_ (fun k _ hp => ⟨hp.1, hp.2.2⟩)
    refine ⟨hg.os, hg.tape, hg.output, by have := hg.size; simp [World.setCell]; omega, fun k hk hp => ?_⟩
    exact (Below.heap_setCell _ _ _ _ hp.1).trans (hg.block k hk hp.2)
theorem PutS.keep {w W : World} {bb B n k t te tl : Nat} {lv lj lj' x y z : Value} {ls pt xs : List Value} {cs cs' cur : Array Value} {sz : Nat} (h : PutS w W bb B cs' te tl lv lj lj' ls pt x y z) (hb : w.heap[bb]? = some (.cells cs 34 (0, 0))) (hr : w.ownsRow B tl 1 lj ls.length ls) (hl : w.ownsRow B te sz lv n xs) (hk : w.heap[k]? = some (.cells cur t (0, 0))) (h1 : t ≠ 34) (h2 : t ≠ tl) (h3 : t ≠ te ∨ some k ≠ lv.ownBlock) : W.heap[k]? = w.heap[k]? := by
  refine h.fr.block k (Array.getElem?_eq_some_iff.1 hk).1 ⟨?_, ?_, own_ty hr hk h2⟩
  · intro e
    subst e
    rw [hb] at hk
    simp at hk
    exact h1 hk.2.symm
  · rcases h3 with h3 | h3
    · exact own_ty hl hk h3
    · exact h3
theorem set_marks1 (k : Nat) (a : Value) (xs : List Value) (hk : k < xs.length) : (marks k [a] ++ xs.drop k).set k a = marks (k + 1) [a] ++ xs.drop (k + 1) := by
  have hm : (marks k [a]).length = k := by rw [marks_len]; simp
  rw [List.set_append_right _ _ (by omega), hm, Nat.sub_self, List.drop_eq_getElem_cons hk, List.set_cons_zero, marks_succ]
  simp
theorem set_at {α : Type} (a l : List α) (m i : Nat) (x : α) (h : a.length = m) : (a ++ l).set (m + i) x = a ++ l.set i x := by
  rw [List.set_append_right _ _ (by omega)]
  congr 2
  omega
theorem six_of {α : Type} (l : List α) (h : 6 ≤ l.length) : ∃ x0 x1 x2 x3 x4 x5 r, l = x0 :: x1 :: x2 :: x3 :: x4 :: x5 :: r := by
  match l, h with
  | x0 :: x1 :: x2 :: x3 :: x4 :: x5 :: r, _ => exact ⟨x0, x1, x2, x3, x4, x5, r, rfl⟩
theorem five_of {α : Type} (l : List α) (h : 5 ≤ l.length) : ∃ x0 x1 x2 x3 x4 r, l = x0 :: x1 :: x2 :: x3 :: x4 :: r := by
  match l, h with
  | x0 :: x1 :: x2 :: x3 :: x4 :: r, _ => exact ⟨x0, x1, x2, x3, x4, r, rfl⟩
theorem set_marks6 (k : Nat) (a0 a1 a2 a3 a4 a5 : Value) (xs : List Value) (hk : (k + 1) * 6 ≤ xs.length) : ((((((marks k [a0, a1, a2, a3, a4, a5] ++ xs.drop (k * 6)).set (k * 6) a0).set (k * 6 + 1) a1).set (k * 6 + 2) a2).set (k * 6 + 3) a3).set (k * 6 + 4) a4).set (k * 6 + 5) a5 = marks (k + 1) [a0, a1, a2, a3, a4, a5] ++ xs.drop ((k + 1) * 6) := by
  have hm : (marks k [a0, a1, a2, a3, a4, a5]).length = k * 6 := by rw [marks_len]; rfl
  obtain ⟨x0, x1, x2, x3, x4, x5, r, e⟩ := six_of (xs.drop (k * 6)) (by rw [List.length_drop]; omega)
  have e2 : xs.drop ((k + 1) * 6) = r := by
    rw [show (k + 1) * 6 = k * 6 + 6 by omega, ← List.drop_drop, e]
    rfl
  rw [e, e2, marks_succ]
  have e0 : ∀ (l : List Value) (y : Value), (marks k [a0, a1, a2, a3, a4, a5] ++ l).set (k * 6) y = marks k [a0, a1, a2, a3, a4, a5] ++ l.set 0 y := fun l y => set_at _ l _ 0 y hm
  rw [e0, set_at _ _ _ _ _ hm, set_at _ _ _ _ _ hm, set_at _ _ _ _ _ hm, set_at _ _ _ _ _ hm, set_at _ _ _ _ _ hm]
  simp
theorem set_marks5 (k : Nat) (a0 a1 a2 a3 a4 : Value) (xs : List Value) (hk : (k + 1) * 5 ≤ xs.length) : (((((marks k [a0, a1, a2, a3, a4] ++ xs.drop (k * 5)).set (k * 5) a0).set (k * 5 + 1) a1).set (k * 5 + 2) a2).set (k * 5 + 3) a3).set (k * 5 + 4) a4 = marks (k + 1) [a0, a1, a2, a3, a4] ++ xs.drop ((k + 1) * 5) := by
  have hm : (marks k [a0, a1, a2, a3, a4]).length = k * 5 := by rw [marks_len]; rfl
  obtain ⟨x0, x1, x2, x3, x4, r, e⟩ := five_of (xs.drop (k * 5)) (by rw [List.length_drop]; omega)
  have e2 : xs.drop ((k + 1) * 5) = r := by
    rw [show (k + 1) * 5 = k * 5 + 5 by omega, ← List.drop_drop, e]
    rfl
  rw [e, e2, marks_succ]
  have e0 : ∀ (l : List Value) (y : Value), (marks k [a0, a1, a2, a3, a4] ++ l).set (k * 5) y = marks k [a0, a1, a2, a3, a4] ++ l.set 0 y := fun l y => set_at _ l _ 0 y hm
  rw [e0, set_at _ _ _ _ _ hm, set_at _ _ _ _ _ hm, set_at _ _ _ _ _ hm, set_at _ _ _ _ _ hm]
  simp
end Go.Proofs.Ytmipbiligijcpaa
namespace Go.Proofs.Ytmipbiligijcpaa
set_option linter.unusedVariables false
set_option linter.unusedSimpArgs false
open Go.RowKit Go.Proofs Go.Maps

def bookC (l1 l4 l5 wn rn : Value) : Array Value := #[l1, .slice none 0 0, .slice none 0 0, l4, l5, .slice none 0 0, .slice none 0 0, wn, rn]
theorem infoIs : (Try.prog.info? 47).map (fun i => (i.zero, i.size, i.bytes)) = some (some (.slice none 0 0), 1, 24) := by kernel_rfl
theorem infoVs : (Try.prog.info? 48).map (fun i => (i.zero, i.size, i.bytes)) = some (some (.slice none 0 0), 1, 24) := by kernel_rfl
set_option maxHeartbeats 4000000 in
set_option maxRecDepth 100000 in
theorem ints_any (bb B q : Nat) (la l1a : Option Addr) (lc l1c : Nat) (xs : List Int) (l4 l5 wn rn : Value) (ls : List Value) (w : World)
    (hbox : w.heap[bb]? = some (.cells (bookC (.slice l1a ls.length l1c) l4 l5 wn rn) 34 (0, 0)))
    (hr2 : w.ownsRow B 47 1 (.slice l1a ls.length l1c) ls.length ls)
    (hl : w.ownsRow B 3 1 (.slice la xs.length lc) xs.length (xs.map (Value.int .i64)))
    (hB : B ≤ w.heap.size) (hn : xs.length ≤ 70000) (hL : ls.length ≤ 100000) (hq : ls.length = 4 * q) :
    Calls Try.prog 33 #[.pointer (some ⟨bb, 0, none⟩), .slice la xs.length lc] w fun e W => e = .returned (.tuple #[]) ∧ ∃ l1a' l1c' x y z, PutS w W bb B (bookC (.slice l1a' (ls.length + 4) l1c') l4 l5 wn rn) 3 47 (.slice la xs.length lc) (.slice l1a ls.length l1c) (.slice l1a' (ls.length + 4) l1c') ls [.int .i64 (-7 - (q : Int))] x y z := by
  obtain ⟨i1, hi, hz0, hz1, hz2⟩ := info_parts infoInt
  have HI : Hid (Try.prog.info? 3 = some i1 ∧ i1.zero = some (.int .i64 0) ∧ i1.size = 1 ∧ i1.bytes = 8) := ⟨hi, hz0, hz1, hz2⟩
  clear hi hz0 hz1 hz2
  obtain ⟨i2, hi, hz0, hz1, hz2⟩ := info_parts infoIs
  have HI2 : Hid (Try.prog.info? 47 = some i2 ∧ i2.zero = some (.slice none 0 0) ∧ i2.size = 1 ∧ i2.bytes = 24) := ⟨hi, hz0, hz1, hz2⟩
  clear hi hz0 hz1 hz2
  obtain ⟨hx1, hx2⟩ := box_cells hbox
  have hdv : ((ls.length : Nat) : Int).tdiv 4 = (q : Int) := by rw [hq]; simp [Int.tdiv]
  have hw1 : wrap64 (q : Int) = q := by unfold wrap64; omega
  have hw2 : wrap64 (-7 - (q : Int)) = -7 - q := by unfold wrap64; omega
  have hq2 : q ≤ 25000 := by omega
  clear hq
  go_enter Try.func33, Try.ntmps33
  simp only [bookC] at hx1
  go_wp2_with fail
  have hbz : bb < w.heap.size := (Array.getElem?_eq_some_iff.1 hbox).1
  have HB0 : Hid (some bb ≠ (Value.slice la xs.length lc).ownBlock ∧ some bb ≠ (Value.slice l1a ls.length l1c).ownBlock ∧ ((Value.slice l1a ls.length l1c).ownBlock = none ∨ (Value.slice l1a ls.length l1c).ownBlock ≠ (Value.slice la xs.length lc).ownBlock)) := ⟨own_ne_bx hl hbox (by decide), own_ne_bx hr2 hbox (by decide), own_ne_ty hr2 hl (by decide)⟩
  have HL0 := (show Hid _ from hl)
  have HX := (show Hid _ from And.intro hbox hr2)
  clear hx1 hx2 hl hbox hr2
  go_loopw [5] (fun i wr => ∃ k : Nat, i = .int .i64 k ∧ k ≤ xs.length ∧ Hid (wr.ownsRow B 3 1 (.slice la xs.length lc) xs.length (marks k [.int .i64 (-7 - (q : Int))] ++ (xs.map (Value.int .i64)).drop k)) ∧ Hid (w.grownBy wr (Value.slice la xs.length lc).ownBlock)) (fun i _ => xs.length - (intOf i).toNat)
  case atStart => exact ⟨0, rfl, Nat.zero_le _, (by show World.ownsRow _ _ _ _ _ _ _; rw [marks_zero, List.nil_append, List.drop_zero]; exact HL0.out), ⟨rfl, rfl, rfl, Nat.le_refl _, fun _ _ _ => rfl⟩⟩
  case round =>
    obtain ⟨k, rfl, hk, HR, HG⟩ := hrel
    by_cases hlt : k < xs.length
    · have hki : (k : Int) < (xs.length : Int) := by omega
      obtain ⟨g, rfl⟩ : ∃ g, la = some ⟨g, 0, none⟩ := by
        rcases HR.out.2 with ⟨_, e⟩ | ⟨g, cap, cur, e, _⟩
        · omega
        · cases e; exact ⟨g, rfl⟩
      obtain ⟨cx, cf⟩ : (∃ u, wr.cell? ⟨g, k, none⟩ = some u) ∧ wr.frozen? ⟨g, k, none⟩ = false := by
        rcases HR.out.2 with ⟨e, _⟩ | ⟨g', cap, cur, e, _, hg, hc, _, hs, _⟩
        · cases e
        · cases e
          refine ⟨⟨cur[k]'(by omega), by simp [World.cell?, hg]⟩, by simp [World.frozen?, hg]⟩
      obtain ⟨u, cu⟩ := cx
      go_wp2_with fail
      obtain ⟨s1, s2⟩ := HR.out.stored k (.int .i64 (-7 - (q : Int)))
      rw [set_marks1 k _ _ (by simp; exact hlt)] at s1
      refine ⟨⟨k + 1, rfl, by omega, s1, HG.out.trans s2⟩, by simp only [intOf]; omega⟩
    · obtain rfl : k = xs.length := by omega
      have hki : ¬ ((xs.length : Int) < (xs.length : Int)) := by omega
      have hfin := HR.out
      rw [List.drop_eq_nil_of_le (by simp), List.append_nil] at hfin
      have hap : AP w wr B 3 xs.length [.int .i64 (-7 - (q : Int))] (.slice la xs.length lc) (.slice la xs.length lc) [.slice la xs.length lc] := by
        refine ⟨hfin, ?_, Or.inl rfl, Fr.of_grown HG.out (fun _ _ h => h)⟩
        intro v hv
        simp only [List.mem_singleton] at hv
        subst hv
        exact ⟨MkAt.of_own hfin, Nat.le_refl _, Or.inl rfl⟩
      have HA : Hid (AP w wr B 3 xs.length [.int .i64 (-7 - (q : Int))] (.slice la xs.length lc) (.slice la xs.length lc) [.slice la xs.length lc]) := hap
      clear hfin HR hap HG HL0
      have hbig : 80000 ≤ maxLen := by decide
      have b1 : xs.length + 1 ≤ maxLen := by omega
      have b2 : (xs.length + 1) * 8 ≤ 140737488355328 := by omega
      have b3 : xs.length + 1 + 1 ≤ maxLen := by omega
      have b4 : (xs.length + 1 + 1) * 8 ≤ 140737488355328 := by omega
      have b5 : xs.length + 1 + 1 + 1 ≤ maxLen := by omega
      have b6 : (xs.length + 1 + 1 + 1) * 8 ≤ 140737488355328 := by omega
      have hbig2 : 110000 ≤ maxLen := by decide
      have b7 : ls.length + 4 ≤ maxLen := by omega
      have b8 : (ls.length + 4) * 24 ≤ 140737488355328 := by omega
      clear hbig hbig2
      go_wp2_with (first
        | (at_builtin; have _ := HA3; refine wpList_append_own_at _ rfl _ _ 27 rfl B 47 i2 (.slice none 0 0) 1 24 Try.underlying27 HI2.out.1 HI2.out.2.1 HI2.out.2.2.1 HI2.out.2.2.2 rfl (by decide) (.slice l1a ls.length l1c) ls.length ls rfl (HX3.out.2.alloc _) ⟨W3.heap.size, 0, none⟩ 4 4 [.slice la xs.length lc, .slice xa (xs.length + 1) xc, .slice ya (xs.length + 1 + 1) yc, .slice za (xs.length + 1 + 1 + 1) zc] rfl rfl (cell_four _ _ _ _ _ _) (by intro u hu; simp at hu; rcases hu with rfl | rfl | rfl | rfl <;> rfl) b7 b8 (HA3.out.base hB _) ?_; intro l2' W5 o5 g5 _ n5; obtain ⟨l1a', l1c', rfl⟩ := sl_of_own o5; have hga := (World.grownBy_alloc W3 (.cells #[.slice la xs.length lc, .slice xa (xs.length + 1) xc, .slice ya (xs.length + 1 + 1) yc, .slice za (xs.length + 1 + 1 + 1) zc] 47) _).trans g5; have hz3 := HA3.out.fr.size; clear x1 x2; obtain ⟨x1, x2⟩ := box_cells ((hga.block bb (by omega) HB0.out.2.1).trans HX3.out.1); simp only [bookC] at x1; have H5 := (show Hid _ from And.intro hga (And.intro o5 n5)); clear hga o5 n5 g5)
        | (at_builtin; have _ := HA2; refine wpList_append_keep _ rfl _ _ 47 rfl B 3 i1 (.int .i64 0) 1 8 Try.underlying47 HI.out.1 HI.out.2.1 HI.out.2.2.1 HI.out.2.2.2 rfl (by decide) (.slice ya (xs.length + 1 + 1) yc) (xs.length + 1 + 1) (marks (xs.length + 1 + 1) [.int .i64 (-7 - (q : Int))]) rfl (HA2.out.row.alloc _) ⟨W2.heap.size, 0, none⟩ 1 1 [.int .i64 (-7 - (q : Int))] rfl rfl (cell_one_new _ _ _) (by intro u hu; simp at hu; subst hu; rfl) b5 b6 (HA2.out.base hB _) ?_; intro z W3 o1 k1 g1 n1; have hap1 := HA2.out.step o1 k1 g1 n1; obtain ⟨za, zc, rfl⟩ := sl_of_own o1; have HA3 := (show Hid _ from hap1); have HX3 : Hid (W3.heap[bb]? = some (.cells (bookC (.slice l1a ls.length l1c) l4 l5 wn rn) 34 (0, 0)) ∧ W3.ownsRow B 47 1 (.slice l1a ls.length l1c) ls.length ls) := (by refine ⟨(hap1.fr.block bb hbz HB0.out.1).trans HX.out.1, hap1.fr.own HX.out.2 (fun k hk e => ?_)⟩; rcases HB0.out.2.2 with h | h; (rw [hk] at h; cases h); exact h (hk.trans e)); clear o1 k1 g1 n1 hap1; obtain ⟨x1, x2⟩ := box_cells HX3.out.1; simp only [bookC] at x1)
        | (at_builtin; have _ := HA1; refine wpList_append_keep _ rfl _ _ 47 rfl B 3 i1 (.int .i64 0) 1 8 Try.underlying47 HI.out.1 HI.out.2.1 HI.out.2.2.1 HI.out.2.2.2 rfl (by decide) (.slice xa (xs.length + 1) xc) (xs.length + 1) (marks (xs.length + 1) [.int .i64 (-7 - (q : Int))]) rfl (HA1.out.row.alloc _) ⟨W1.heap.size, 0, none⟩ 1 1 [.int .i64 (-7 - (q : Int))] rfl rfl (cell_one_new _ _ _) (by intro u hu; simp at hu; subst hu; rfl) b3 b4 (HA1.out.base hB _) ?_; intro y W2 o1 k1 g1 n1; have hap1 := HA1.out.step o1 k1 g1 n1; obtain ⟨ya, yc, rfl⟩ := sl_of_own o1; have HA2 := (show Hid _ from hap1); clear o1 k1 g1 n1 hap1)
        | (at_builtin; refine wpList_append_keep _ rfl _ _ 47 rfl B 3 i1 (.int .i64 0) 1 8 Try.underlying47 HI.out.1 HI.out.2.1 HI.out.2.2.1 HI.out.2.2.2 rfl (by decide) (.slice la xs.length lc) xs.length (marks xs.length [.int .i64 (-7 - (q : Int))]) rfl (HA.out.row.alloc _) ⟨wr.heap.size, 0, none⟩ 1 1 [.int .i64 (-7 - (q : Int))] rfl rfl (cell_one_new _ _ _) (by intro u hu; simp at hu; subst hu; rfl) b1 b2 (HA.out.base hB _) ?_; intro x W1 o1 k1 g1 n1; have hap1 := HA.out.step o1 k1 g1 n1; obtain ⟨xa, xc, rfl⟩ := sl_of_own o1; have HA1 := (show Hid _ from hap1); clear o1 k1 g1 n1 hap1))
      go_end0
      refine ⟨rfl, l1a', l1c', .slice xa (xs.length + 1) xc, .slice ya (xs.length + 1 + 1) yc, .slice za (xs.length + 1 + 1 + 1) zc, ?_⟩
      exact put_done (off := 0) HA3.out HX3.out.1 HX3.out.2 HB0.out.2.1 hbz H5.out.1 H5.out.2.1 H5.out.2.2 (by decide) (by decide) (by decide)
end Go.Proofs.Ytmipbiligijcpaa
namespace Go.Proofs.Ytmipbiligijcpaa
set_option linter.unusedVariables false
set_option linter.unusedSimpArgs false
open Go.RowKit Go.Proofs Go.Maps

theorem sizes48 (n : Nat) (h : n ≤ 70000) : n + 1 ≤ maxLen ∧ (n + 1) * 48 ≤ 140737488355328 ∧ n + 1 + 1 ≤ maxLen ∧ (n + 1 + 1) * 48 ≤ 140737488355328 ∧ n + 1 + 1 + 1 ≤ maxLen ∧ (n + 1 + 1 + 1) * 48 ≤ 140737488355328 := by
  have : 80000 ≤ maxLen := by decide
  omega
theorem sizes24 (n : Nat) (h : n ≤ 100000) : n + 4 ≤ maxLen ∧ (n + 4) * 24 ≤ 140737488355328 := by
  have : 110000 ≤ maxLen := by decide
  omega
theorem news6 (W : World) (a0 a1 a2 a3 a4 a5 : Value) : ∀ (j : Nat) (u : Value), [a0, a1, a2, a3, a4, a5][j]? = some u → (W.alloc (.cells #[a0, a1, a2, a3, a4, a5] 62)).cell? ((⟨W.heap.size, 0, none⟩ : Addr).add j) = some u := by
  intro j u hj
  rw [Addr.add_lit, Nat.zero_add, World.cell?_alloc_new]
  simpa using hj
theorem PutS.pre {w w1 W : World} {bb B : Nat} {cs' : Array Value} {te tl : TypeId} {lv lj lj' : Value} {ls pt : List Value} {x y z : Value} {o : Obj} (h : PutS w1 W bb B cs' te tl lv lj lj' ls pt x y z) (he : w1 = w.alloc o) : PutS w W bb B cs' te tl lv lj lj' ls pt x y z := by
  subst he
  have hz : (w.alloc o).heap.size = w.heap.size + 1 := by simp
  refine ⟨h.box, h.row, ?_, ?_, ?_⟩
  · intro v hv
    obtain ⟨a, b⟩ := h.mks v hv
    refine ⟨a, ?_⟩
    rcases b with b | ⟨q, b1, b2⟩
    · exact Or.inl b
    · exact Or.inr ⟨q, b1, by omega⟩
  · rcases h.new with b | ⟨q, b1, b2⟩
    · exact Or.inl b
    · exact Or.inr ⟨q, b1, by omega⟩
  · exact Fr.trans (Fr.of_below (below1 _ _)) h.fr (fun _ _ hp => hp)
set_option maxHeartbeats 4000000 in
set_option maxRecDepth 100000 in
theorem vals_any (bb B q : Nat) (la l1a : Option Addr) (lc l1c : Nat) (xs : List Vl) (l1 l5 wn rn : Value) (ls : List Value) (w : World)
    (hbox : w.heap[bb]? = some (.cells (bookC l1 (.slice l1a ls.length l1c) l5 wn rn) 34 (0, 0)))
    (hr2 : w.ownsRow B 48 1 (.slice l1a ls.length l1c) ls.length ls)
    (hl : w.ownsRow B 62 6 (.slice la xs.length lc) xs.length (vRow xs))
    (hB : B ≤ w.heap.size) (hn : xs.length ≤ 70000) (hL : ls.length ≤ 100000) (hq : ls.length = 4 * q) :
    Calls Try.prog 34 #[.pointer (some ⟨bb, 0, none⟩), .slice la xs.length lc] w fun e W => e = .returned (.tuple #[]) ∧ ∃ l1a' l1c' x y z, PutS w W bb B (bookC l1 (.slice l1a' (ls.length + 4) l1c') l5 wn rn) 62 48 (.slice la xs.length lc) (.slice l1a ls.length l1c) (.slice l1a' (ls.length + 4) l1c') ls [.int .i64 (-7 - (q : Int)), .int .i64 0, .int .i64 0, .bool false, .int .i64 0, .int .i64 0] x y z := by
  obtain ⟨i1, hi, hz0, hz1, hz2⟩ := info_parts infoVl
  have HI : Hid (Try.prog.info? 62 = some i1 ∧ i1.zero = some (.agg #[.int .i64 0, .int .i64 0, .int .i64 0, .bool false, .int .i64 0, .int .i64 0]) ∧ i1.size = 6 ∧ i1.bytes = 48) := ⟨hi, hz0, hz1, hz2⟩
  clear hi hz0 hz1 hz2
  obtain ⟨i2, hi, hz0, hz1, hz2⟩ := info_parts infoVs
  have HI2 : Hid (Try.prog.info? 48 = some i2 ∧ i2.zero = some (.slice none 0 0) ∧ i2.size = 1 ∧ i2.bytes = 24) := ⟨hi, hz0, hz1, hz2⟩
  clear hi hz0 hz1 hz2
  obtain ⟨hx1, hx2⟩ := box_cells hbox
  have hdv : ((ls.length : Nat) : Int).tdiv 4 = (q : Int) := by rw [hq]; simp [Int.tdiv]
  have hw1 : wrap64 (q : Int) = q := by unfold wrap64; omega
  have hw2 : wrap64 (-7 - (q : Int)) = -7 - q := by unfold wrap64; omega
  have hq2 : q ≤ 25000 := by omega
  clear hq
  go_enter Try.func34, Try.ntmps34
  simp only [bookC] at hx1
  go_wp2_with fail
  have hbz0 : bb < w.heap.size := (Array.getElem?_eq_some_iff.1 hbox).1
  obtain ⟨w1, hw1'⟩ : ∃ V, V = w.alloc (.cells #[.int .i64 (-7 - (q : Int)), .int .i64 0, .int .i64 0, .bool false, .int .i64 0, .int .i64 0] 62) := ⟨_, rfl⟩
  rw [← hw1']
  have hmb : w1.heap[w.heap.size]? = some (.cells #[.int .i64 (-7 - (q : Int)), .int .i64 0, .int .i64 0, .bool false, .int .i64 0, .int .i64 0] 62 (0, 0)) := by rw [hw1']; exact heap_alloc_new _ _
  have hbz : bb < w1.heap.size := by rw [hw1']; simp; omega
  have hB1 : B ≤ w1.heap.size := by rw [hw1']; simp; omega
  have hne0 : some w.heap.size ≠ (Value.slice la xs.length lc).ownBlock := by
    intro e
    have := (hl.lt _ e.symm).2
    omega
  have hbox : w1.heap[bb]? = some (.cells (bookC l1 (.slice l1a ls.length l1c) l5 wn rn) 34 (0, 0)) := by rw [hw1', Below.heap_alloc _ _ _ hbz0]; exact hbox
  have hr2 : w1.ownsRow B 48 1 (.slice l1a ls.length l1c) ls.length ls := by rw [hw1']; exact hr2.alloc _
  have hl : w1.ownsRow B 62 6 (.slice la xs.length lc) xs.length (vRow xs) := by rw [hw1']; exact hl.alloc _
  have HM : Hid (w1.heap[w.heap.size]? = some (.cells #[.int .i64 (-7 - (q : Int)), .int .i64 0, .int .i64 0, .bool false, .int .i64 0, .int .i64 0] 62 (0, 0)) ∧ some w.heap.size ≠ (Value.slice la xs.length lc).ownBlock ∧ w1 = w.alloc (.cells #[.int .i64 (-7 - (q : Int)), .int .i64 0, .int .i64 0, .bool false, .int .i64 0, .int .i64 0] 62) ∧ w.heap.size < w1.heap.size) := ⟨hmb, hne0, hw1', by rw [hw1']; simp⟩
  clear hmb hne0 hw1'
  have HB0 : Hid (some bb ≠ (Value.slice la xs.length lc).ownBlock ∧ some bb ≠ (Value.slice l1a ls.length l1c).ownBlock ∧ ((Value.slice l1a ls.length l1c).ownBlock = none ∨ (Value.slice l1a ls.length l1c).ownBlock ≠ (Value.slice la xs.length lc).ownBlock)) := ⟨own_ne_bx hl hbox (by decide), own_ne_bx hr2 hbox (by decide), own_ne_ty hr2 hl (by decide)⟩
  have HL0 := (show Hid _ from hl)
  have HX := (show Hid _ from And.intro hbox hr2)
  clear hx1 hx2 hl hbox hr2
  go_loopw [5] (fun i wr => ∃ k : Nat, i = .int .i64 k ∧ k ≤ xs.length ∧ Hid (wr.ownsRow B 62 6 (.slice la xs.length lc) xs.length (marks k [.int .i64 (-7 - (q : Int)), .int .i64 0, .int .i64 0, .bool false, .int .i64 0, .int .i64 0] ++ (vRow xs).drop (k * 6))) ∧ Hid (w1.grownBy wr (Value.slice la xs.length lc).ownBlock)) (fun i _ => xs.length - (intOf i).toNat)
  case atStart => exact ⟨0, rfl, Nat.zero_le _, (by show World.ownsRow _ _ _ _ _ _ _; rw [marks_zero, List.nil_append, List.drop_zero]; exact HL0.out), ⟨rfl, rfl, rfl, Nat.le_refl _, fun _ _ _ => rfl⟩⟩
  case round =>
    obtain ⟨k, rfl, hk, HR, HG⟩ := hrel
    by_cases hlt : k < xs.length
    · have hki : (k : Int) < (xs.length : Int) := by omega
      obtain ⟨g, rfl⟩ : ∃ g, la = some ⟨g, 0, none⟩ := by
        rcases HR.out.2 with ⟨_, e⟩ | ⟨g, cap, cur, e, _⟩
        · omega
        · cases e; exact ⟨g, rfl⟩
      obtain ⟨cf, cx⟩ : (∀ o, wr.frozen? ⟨g, o, none⟩ = false) ∧ ∀ o, o < xs.length * 6 → ∃ u, wr.cell? ⟨g, o, none⟩ = some u := by
        rcases HR.out.2 with ⟨e, _⟩ | ⟨g', cap, cur, e, _, hg, hc, _, hs, _⟩
        · cases e
        · cases e
          refine ⟨fun o => by simp [World.frozen?, hg], fun o ho => ⟨cur[o]'(by have := Nat.mul_le_mul_right 6 hc; omega), by simp [World.cell?, hg]⟩⟩
      obtain ⟨u0, c0⟩ := cx (k * 6) (by omega)
      obtain ⟨u1, c1⟩ := cx (k * 6 + 1) (by omega)
      obtain ⟨u2, c2⟩ := cx (k * 6 + 2) (by omega)
      obtain ⟨u3, c3⟩ := cx (k * 6 + 3) (by omega)
      obtain ⟨u4, c4⟩ := cx (k * 6 + 4) (by omega)
      obtain ⟨u5, c5⟩ := cx (k * 6 + 5) (by omega)
      clear cx
      obtain ⟨m1, m2⟩ := box_cells ((HG.out.block _ HM.out.2.2.2 HM.out.2.1).trans HM.out.1)
      go_wp2_with fail
      have t0 := HR.out.stored (k * 6) (.int .i64 (-7 - (q : Int)))
      have t1 := t0.1.stored (k * 6 + 1) (.int .i64 0)
      have t2 := t1.1.stored (k * 6 + 2) (.int .i64 0)
      have t3 := t2.1.stored (k * 6 + 3) (.bool false)
      have t4 := t3.1.stored (k * 6 + 4) (.int .i64 0)
      have t5 := t4.1.stored (k * 6 + 5) (.int .i64 0)
      have s1 := t5.1
      have s2 := ((((t0.2.trans t1.2).trans t2.2).trans t3.2).trans t4.2).trans t5.2
      rw [set_marks6 k _ _ _ _ _ _ _ (by rw [vRow_len]; omega)] at s1
      refine ⟨⟨k + 1, rfl, by omega, s1, HG.out.trans s2⟩, by simp only [intOf]; omega⟩
    · obtain rfl : k = xs.length := by omega
      have hki : ¬ ((xs.length : Int) < (xs.length : Int)) := by omega
      have hfin := HR.out
      rw [List.drop_eq_nil_of_le (by rw [vRow_len]; omega), List.append_nil] at hfin
      have hap : AP w1 wr B 62 xs.length [.int .i64 (-7 - (q : Int)), .int .i64 0, .int .i64 0, .bool false, .int .i64 0, .int .i64 0] (.slice la xs.length lc) (.slice la xs.length lc) [.slice la xs.length lc] := by
        refine ⟨hfin, ?_, Or.inl rfl, Fr.of_grown HG.out (fun _ _ h => h)⟩
        intro v hv
        simp only [List.mem_singleton] at hv
        subst hv
        exact ⟨MkAt.of_own hfin, Nat.le_refl _, Or.inl rfl⟩
      have HA : Hid (AP w1 wr B 62 xs.length [.int .i64 (-7 - (q : Int)), .int .i64 0, .int .i64 0, .bool false, .int .i64 0, .int .i64 0] (.slice la xs.length lc) (.slice la xs.length lc) [.slice la xs.length lc]) := hap
      clear hfin HR hap HG HL0
      obtain ⟨b1, b2, b3, b4, b5, b6⟩ := sizes48 xs.length hn
      obtain ⟨b7, b8⟩ := sizes24 ls.length hL
      obtain ⟨m1, m2⟩ := box_cells ((HA.out.fr.block _ HM.out.2.2.2 HM.out.2.1).trans HM.out.1)
      go_wp2_with (first
        | (at_builtin; have _ := HA3; refine wpList_append_own_at _ rfl _ _ 30 rfl B 48 i2 (.slice none 0 0) 1 24 Try.underlying30 HI2.out.1 HI2.out.2.1 HI2.out.2.2.1 HI2.out.2.2.2 rfl (by decide) (.slice l1a ls.length l1c) ls.length ls rfl (HX3.out.2.alloc _) ⟨W3.heap.size, 0, none⟩ 4 4 [.slice la xs.length lc, .slice xa (xs.length + 1) xc, .slice ya (xs.length + 1 + 1) yc, .slice za (xs.length + 1 + 1 + 1) zc] rfl rfl (cell_four _ _ _ _ _ _) (by intro u hu; simp at hu; rcases hu with rfl | rfl | rfl | rfl <;> rfl) b7 b8 (HA3.out.base hB1 _) ?_; intro l2' W5 o5 g5 _ n5; obtain ⟨l1a', l1c', rfl⟩ := sl_of_own o5; have hga := (World.grownBy_alloc W3 (.cells #[.slice la xs.length lc, .slice xa (xs.length + 1) xc, .slice ya (xs.length + 1 + 1) yc, .slice za (xs.length + 1 + 1 + 1) zc] 48) _).trans g5; have hz3 := HA3.out.fr.size; clear x1 x2; obtain ⟨x1, x2⟩ := box_cells ((hga.block bb (by omega) HB0.out.2.1).trans HX3.out.1); simp only [bookC] at x1; have H5 := (show Hid _ from And.intro hga (And.intro o5 n5)); clear hga o5 n5 g5)
        | (at_builtin; have _ := HA2; refine wpList_append_keep _ rfl _ _ 48 rfl B 62 i1 (.agg #[.int .i64 0, .int .i64 0, .int .i64 0, .bool false, .int .i64 0, .int .i64 0]) 6 48 Try.underlying48 HI.out.1 HI.out.2.1 HI.out.2.2.1 HI.out.2.2.2 rfl (by decide) (.slice ya (xs.length + 1 + 1) yc) (xs.length + 1 + 1) (marks (xs.length + 1 + 1) [.int .i64 (-7 - (q : Int)), .int .i64 0, .int .i64 0, .bool false, .int .i64 0, .int .i64 0]) rfl (HA2.out.row.alloc _) ⟨W2.heap.size, 0, none⟩ 1 1 [.int .i64 (-7 - (q : Int)), .int .i64 0, .int .i64 0, .bool false, .int .i64 0, .int .i64 0] rfl rfl (news6 _ _ _ _ _ _ _) (by intro u hu; simp at hu; rcases hu with rfl | rfl | rfl | rfl <;> rfl) b5 b6 (HA2.out.base hB1 _) ?_; intro z W3 o1 k1 g1 n1; have hap1 := HA2.out.step o1 k1 g1 n1; obtain ⟨za, zc, rfl⟩ := sl_of_own o1; have HA3 := (show Hid _ from hap1); clear m1 m2; obtain ⟨m1, m2⟩ := box_cells ((hap1.fr.block _ HM.out.2.2.2 HM.out.2.1).trans HM.out.1); have HX3 : Hid (W3.heap[bb]? = some (.cells (bookC l1 (.slice l1a ls.length l1c) l5 wn rn) 34 (0, 0)) ∧ W3.ownsRow B 48 1 (.slice l1a ls.length l1c) ls.length ls) := (by refine ⟨(hap1.fr.block bb hbz HB0.out.1).trans HX.out.1, hap1.fr.own HX.out.2 (fun k hk e => ?_)⟩; rcases HB0.out.2.2 with h | h; (rw [hk] at h; cases h); exact h (hk.trans e)); clear o1 k1 g1 n1 hap1; obtain ⟨x1, x2⟩ := box_cells HX3.out.1; simp only [bookC] at x1)
        | (at_builtin; have _ := HA1; refine wpList_append_keep _ rfl _ _ 48 rfl B 62 i1 (.agg #[.int .i64 0, .int .i64 0, .int .i64 0, .bool false, .int .i64 0, .int .i64 0]) 6 48 Try.underlying48 HI.out.1 HI.out.2.1 HI.out.2.2.1 HI.out.2.2.2 rfl (by decide) (.slice xa (xs.length + 1) xc) (xs.length + 1) (marks (xs.length + 1) [.int .i64 (-7 - (q : Int)), .int .i64 0, .int .i64 0, .bool false, .int .i64 0, .int .i64 0]) rfl (HA1.out.row.alloc _) ⟨W1.heap.size, 0, none⟩ 1 1 [.int .i64 (-7 - (q : Int)), .int .i64 0, .int .i64 0, .bool false, .int .i64 0, .int .i64 0] rfl rfl (news6 _ _ _ _ _ _ _) (by intro u hu; simp at hu; rcases hu with rfl | rfl | rfl | rfl <;> rfl) b3 b4 (HA1.out.base hB1 _) ?_; intro y W2 o1 k1 g1 n1; have hap1 := HA1.out.step o1 k1 g1 n1; obtain ⟨ya, yc, rfl⟩ := sl_of_own o1; have HA2 := (show Hid _ from hap1); clear m1 m2; obtain ⟨m1, m2⟩ := box_cells ((hap1.fr.block _ HM.out.2.2.2 HM.out.2.1).trans HM.out.1); clear o1 k1 g1 n1 hap1)
        | (at_builtin; refine wpList_append_keep _ rfl _ _ 48 rfl B 62 i1 (.agg #[.int .i64 0, .int .i64 0, .int .i64 0, .bool false, .int .i64 0, .int .i64 0]) 6 48 Try.underlying48 HI.out.1 HI.out.2.1 HI.out.2.2.1 HI.out.2.2.2 rfl (by decide) (.slice la xs.length lc) xs.length (marks xs.length [.int .i64 (-7 - (q : Int)), .int .i64 0, .int .i64 0, .bool false, .int .i64 0, .int .i64 0]) rfl (HA.out.row.alloc _) ⟨wr.heap.size, 0, none⟩ 1 1 [.int .i64 (-7 - (q : Int)), .int .i64 0, .int .i64 0, .bool false, .int .i64 0, .int .i64 0] rfl rfl (news6 _ _ _ _ _ _ _) (by intro u hu; simp at hu; rcases hu with rfl | rfl | rfl | rfl <;> rfl) b1 b2 (HA.out.base hB1 _) ?_; intro x W1 o1 k1 g1 n1; have hap1 := HA.out.step o1 k1 g1 n1; obtain ⟨xa, xc, rfl⟩ := sl_of_own o1; have HA1 := (show Hid _ from hap1); clear m1 m2; obtain ⟨m1, m2⟩ := box_cells ((hap1.fr.block _ HM.out.2.2.2 HM.out.2.1).trans HM.out.1); clear o1 k1 g1 n1 hap1))
      go_end0
      refine ⟨rfl, l1a', l1c', .slice xa (xs.length + 1) xc, .slice ya (xs.length + 1 + 1) yc, .slice za (xs.length + 1 + 1 + 1) zc, ?_⟩
      have hp := put_done (off := 3) HA3.out HX3.out.1 HX3.out.2 HB0.out.2.1 hbz H5.out.1 H5.out.2.1 H5.out.2.2 (by decide) (by decide) (by decide)
      exact hp.pre HM.out.2.2.1
end Go.Proofs.Ytmipbiligijcpaa
