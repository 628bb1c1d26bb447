/- A part of the proof: contracts of functions of the program. -/
import Derived.Test.YtmipbiligijcpaaGreatDoorA30
import Derived.Test.YtmipbiligijcpaaGreatDoorA38
import Derived.Test.YtmipbiligijcpaaGreatDoorA36
import Derived.ArgAppend
namespace Go.Proofs.YtmipbiligijcpaaGreatDoor
set_option linter.unusedVariables false
set_option linter.unusedSimpArgs false
open Go.RowKit Go.Proofs Go.Maps

theorem doc_nil (w w' : World) (e : Int) (hb : Below w.heap.size w w') : DocAns w (e, (0, [], []), 0) (.returned (.tuple #[.agg #[.int .i64 0, .slice none 0 0, .slice none 0 0], .int .i64 e])) w' :=
  ⟨hb, none, 0, none, 0, [], rfl, World.ownsRow_nil _ _ _ _, World.ownsRow_nil _ _ _ _, rfl, by simp⟩
set_option maxHeartbeats 1000000 in
set_option maxRecDepth 100000 in
theorem rrun_err (s : ByteArray) (ins : List Int) (ia : Option Addr) (ic : Nat) (fuel : Int) (b : Bool) (w : World) (hr : prs s = .inl b) :
    Calls Tryz.prog 27 #[.string s, .slice ia ins.length ic, .int .i64 fuel] w (DocAns w (runR s ins fuel)) := by
  have HP := (show Hid _ from rparse_any s (w.alloc (.cells #[.int .i64 0, .slice none 0 0, .slice none 0 0] 57)))
  rw [hr] at HP
  have hrr : runR s ins fuel = (if b then 2 else 1, (0, [], []), 0) := by unfold runR; rw [hr]; cases b <;> rfl
  rw [hrr]
  have HW : Hid ((w.alloc (.cells #[.int .i64 0, .slice none 0 0, .slice none 0 0] 57)).heap[w.heap.size]? = some (.cells #[.int .i64 0, .slice none 0 0, .slice none 0 0] 57 (0, 0))) := heap_alloc_new w _
  clear hrr hr
  cases b with
  | true =>
    go_enter Tryz.func27, Tryz.ntmps27
    go_wp2_with fail
    refine Calls.mono HP.out ?_
    rintro e W1 ⟨hb1, rfl⟩
    obtain ⟨rx1, rx2⟩ := box_cells ((hb1.block w.heap.size (by simp)).trans HW.out)
    go_wp2_with fail
    refine bodyPost_ret (v := .tuple #[.agg #[.int .i64 0, .slice none 0 0, .slice none 0 0], .int .i64 2]) (by simp [results, Tryz.results27, go_sem, rx1]) rfl ?_
    refine doc_nil _ _ _ ?_
    have hl : Below w.heap.size w W1 := ((Below.refl w.heap.size w).alloc (Nat.le_refl _) _).trans (hb1.mono (by simp))
    exact ((hl.setCell (Nat.le_refl _) _).setCell (Nat.le_refl _) _).setCell (Nat.le_refl _) _
  | false =>
    go_enter Tryz.func27, Tryz.ntmps27
    go_wp2_with fail
    refine Calls.mono HP.out ?_
    rintro e W1 ⟨hb1, rfl⟩
    obtain ⟨rx1, rx2⟩ := box_cells ((hb1.block w.heap.size (by simp)).trans HW.out)
    go_wp2_with fail
    refine bodyPost_ret (v := .tuple #[.agg #[.int .i64 0, .slice none 0 0, .slice none 0 0], .int .i64 1]) (by simp [results, Tryz.results27, go_sem, rx1]) rfl ?_
    refine doc_nil _ _ _ ?_
    have hl : Below w.heap.size w W1 := ((Below.refl w.heap.size w).alloc (Nat.le_refl _) _).trans (hb1.mono (by simp))
    exact ((hl.setCell (Nat.le_refl _) _).setCell (Nat.le_refl _) _).setCell (Nat.le_refl _) _
set_option maxHeartbeats 1000000 in
set_option maxRecDepth 100000 in
theorem rrun_arg (s : ByteArray) (ins : List Int) (ia : Option Addr) (ic : Nat) (fuel : Int) (pl : List PN) (vs : List Nam) (w : World) (hr : prs s = .inr (pl, vs)) (ha : 100 < ins.length ∨ fuel < 0 ∨ 2000 < fuel) :
    Calls Tryz.prog 27 #[.string s, .slice ia ins.length ic, .int .i64 fuel] w (DocAns w (runR s ins fuel)) := by
  have HP := (show Hid _ from rparse_any s (w.alloc (.cells #[.int .i64 0, .slice none 0 0, .slice none 0 0] 57)))
  rw [hr] at HP
  have hrr : runR s ins fuel = (9, (0, [], []), 0) := by unfold runR; rw [hr]; simp only; rw [if_pos ha]
  rw [hrr]
  have HW : Hid ((w.alloc (.cells #[.int .i64 0, .slice none 0 0, .slice none 0 0] 57)).heap[w.heap.size]? = some (.cells #[.int .i64 0, .slice none 0 0, .slice none 0 0] 57 (0, 0))) := heap_alloc_new w _
  have HA : Hid (decide (100 < (ins.length : Int)) = true ∨ (decide (100 < (ins.length : Int)) = false ∧ decide (fuel < 0) = true) ∨ (decide (100 < (ins.length : Int)) = false ∧ decide (fuel < 0) = false ∧ decide (2000 < fuel) = true)) := by
    show _ ∨ _
    simp only [decide_eq_true_eq, decide_eq_false_iff_not]
    omega
  clear hrr hr ha
  go_enter Tryz.func27, Tryz.ntmps27
  go_wp2_with fail
  refine Calls.mono HP.out ?_
  rintro e W1 ⟨hb1, pb, g, cap, va, vc, xv, cl, evs, ps, rfl, hpb, hbx, hg, hN, hR, hps, hx, hxl, hxe⟩
  obtain ⟨rx1, rx2⟩ := box_cells ((hb1.block w.heap.size (by simp)).trans HW.out)
  clear hbx hN hR hps hx hxl hxe
  have ha := HA.out
  have hl : Below w.heap.size w W1 := ((Below.refl w.heap.size w).alloc (Nat.le_refl _) _).trans (hb1.mono (by simp))
  rcases ha with d1 | ⟨d1, d2⟩ | ⟨d1, d2, d3⟩
  all_goals
    go_wp2_with fail
    refine bodyPost_ret (v := .tuple #[.agg #[.int .i64 0, .slice none 0 0, .slice none 0 0], .int .i64 9]) (by simp [results, Tryz.results27, go_sem, rx1]) rfl ?_
    refine doc_nil _ _ _ ?_
    exact ((hl.setCell (Nat.le_refl _) _).setCell (Nat.le_refl _) _).setCell (Nat.le_refl _) _
theorem rrun_any (s : ByteArray) (ins : List Int) (ia : Option Addr) (ic : Nat) (fuel : Int) (w : World) (hI : InL w w.heap.size (.slice ia ins.length ic) ins) :
    Calls Tryz.prog 27 #[.string s, .slice ia ins.length ic, .int .i64 fuel] w (DocAns w (runR s ins fuel)) := by
  match hr : prs s with
  | .inl b => exact rrun_err s ins ia ic fuel b w hr
  | .inr (pl, vs) =>
    by_cases ha : 100 < ins.length ∨ fuel < 0 ∨ 2000 < fuel
    · exact rrun_arg s ins ia ic fuel pl vs w hr ha
    · obtain ⟨f, rfl⟩ : ∃ f : Nat, fuel = f := ⟨fuel.toNat, by omega⟩
      have h := rrun_core s ins ia ic f pl vs w hI (by omega) (by omega) hr (fun W => by have := rparse_any s W; rw [hr] at this; exact this)
      have hrr : runR s ins f = runG pl vs ins f := by unfold runR; rw [hr]; simp only; rw [if_neg ha]
      rw [hrr]
      exact h
end Go.Proofs.YtmipbiligijcpaaGreatDoor
namespace Go.Proofs.YtmipbiligijcpaaGreatDoor
set_option linter.unusedVariables false
set_option linter.unusedSimpArgs false
open Go.RowKit Go.Proofs Go.Maps

theorem run_append_keep {P : Program} (w : World) (base : Nat) (t ty e : TypeId) (i : TypeInfo) (z : Value) (size bytes : Nat) (ht : P.underlying t = some (.slice e)) (hi : P.info? e = some i) (hz : i.zero = some z)
    (hsize : i.size = size) (hby : i.bytes = bytes) (hzs : z.cells.size = size) (hsz : 0 < size)
    (v : Value) (n : Nat) (xs : List Value) (hown : w.ownsRow base e size v n xs)
    (a : Addr) (m c : Nat) (news : List Value) (hl : news.length = m * size) (hnews : ∀ j u, news[j]? = some u → w.cell? (a.add j) = some u) (h1 : ∀ u ∈ news, u.oneCell' = true)
    (h63 : n + m ≤ maxLen) (hbytes : (n + m) * bytes ≤ 140737488355328) (hbase : base ≤ w.heap.size) :
    ∃ v' w', (Builtin.append_ #[t, t] ty #[v, .slice (some a) m c]).run P w = .ok v' w' ∧ w'.ownsRow base e size v' (n + m) (xs ++ news) ∧ w'.ownsRow base e size v n xs ∧ w.grownBy w' v.ownBlock ∧ (v'.ownBlock = v.ownBlock ∨ v'.ownBlock = some w.heap.size) := by
  obtain ⟨v', w', hrun, r1, r2, _, r4⟩ := run_append_own_at (P := P) w base t ty e i z size bytes ht hi hz hsize hby hzs hsz v n xs hown a m c news hl hnews h1 h63 hbytes hbase
  refine ⟨v', w', hrun, r1, ?_, r2, r4⟩
  have hxl := hown.1
  rcases hown.2 with ⟨rfl, rfl⟩ | ⟨g, cap, cur, rfl, hb, hg, hc, hm, hs, htk⟩
  · obtain rfl : xs = [] := List.eq_nil_of_length_eq_zero (by simpa using hxl)
    exact World.ownsRow_nil _ _ _ _
  · by_cases hroom : n + m ≤ cap
    · have hin : ∀ j, j < news.length → 0 + n * i.size + j < cur.size := by
        intro j hj
        rw [hs, hsize]
        have h2 : (n + m) * size ≤ cap * size := Nat.mul_le_mul_right _ hroom
        rw [Nat.add_mul] at h2
        omega
      have hr := run_append_room_cells (P := P) w t ty e i ht hi g 0 n cap a m c news (by rw [hsize]; exact hl) hnews h1 hroom (by
        intro j hj
        simp only [World.cell?, hg]
        rw [Array.getElem?_eq_getElem (hin j hj)]
        rfl) (by
        intro j hj
        simp [World.frozen?, hg])
      rw [hr] at hrun
      cases hrun
      rcases r1.2 with ⟨e1, _⟩ | ⟨g', cap', cur', e1, _, hg', hc', hm', hs', htk'⟩
      · cases e1
      · cases e1
        refine ⟨hxl, Or.inr ⟨g, cap, cur', rfl, hb, hg', hc, hm, hs', ?_⟩⟩
        have h2 := congrArg (List.take (n * size)) htk'
        rw [List.take_take, Nat.min_eq_left (Nat.mul_le_mul_right _ (by omega)), List.take_left' hxl] at h2
        exact h2
    · obtain ⟨v2, w2, hrun2, _, g2⟩ := run_append_arg_grows (P := P) w t ty e i z size bytes ht hi hz hsize hby hzs hsz ⟨g, 0, none⟩ n cap xs hxl (hown.cells rfl) a m c news hl hnews (by omega) h63 hbytes
      rw [hrun2] at hrun
      cases hrun
      exact hown.kept g2 (Or.inr (by simp [Value.ownBlock]))
theorem wpList_append_keep {P : Program} (w : World) {ops : Array Oper} {rest : List Oper} {o : Oper} {a : Act} {Q : Exit → Act → World → Prop} (hgd : o.guard = none) (s x : Operand) (t : TypeId)
    (ho : o.op = .call { callee := .builtin .append, args := #[s, x], argTypes := #[t, t] })
    (base : Nat) (e : TypeId) (i : TypeInfo) (z : Value) (size bytes : Nat) (ht : P.underlying t = some (.slice e)) (hi : P.info? e = some i) (hz : i.zero = some z)
    (hsize : i.size = size) (hby : i.bytes = bytes) (hzs : z.cells.size = size) (hsz : 0 < size)
    (v : Value) (n : Nat) (xs : List Value) (hs : a.eval s = v) (hown : w.ownsRow base e size v n xs)
    (ad : Addr) (m c : Nat) (news : List Value) (hx : a.eval x = .slice (some ad) m c) (hl : news.length = m * size) (hnews : ∀ j u, news[j]? = some u → w.cell? (ad.add j) = some u) (h1 : ∀ u ∈ news, u.oneCell' = true)
    (h63 : n + m ≤ maxLen) (hbytes : (n + m) * bytes ≤ 140737488355328) (hbase : base ≤ w.heap.size)
    (h : ∀ v' w', w'.ownsRow base e size v' (n + m) (xs ++ news) → w'.ownsRow base e size v n xs → w.grownBy w' v.ownBlock → (v'.ownBlock = v.ownBlock ∨ v'.ownBlock = some w.heap.size) → wpList P ops Q rest (a.put o.dst v') w') :
    wpList P ops Q (o :: rest) a w := by
  refine wpList_plain hgd fun K hK => ?_
  obtain ⟨v', w', hr, h2, h3, h4, h5⟩ := run_append_keep (P := P) w base t o.type e i z size bytes ht hi hz hsize hby hzs hsz v n xs hown ad m c news hl hnews h1 h63 hbytes hbase
  unfold Oper.wp execOp
  simp only [ho, resolve, invoke, builtin, Sem.run_bind, Sem.run_pure, Result.andThen_ok, List.map_toArray, List.map_cons, List.map_nil, hs, hx, hr]
  exact hK _ _ (h v' w' h2 h3 h4 h5)

def marks (n : Nat) (pt : List Value) : List Value := (List.replicate n pt).flatten
theorem marks_len (n : Nat) (pt : List Value) : (marks n pt).length = n * pt.length := by
  unfold marks
  rw [List.length_flatten]
  simp
theorem marks_zero (pt : List Value) : marks 0 pt = [] := rfl
theorem marks_succ (n : Nat) (pt : List Value) : marks (n + 1) pt = marks n pt ++ pt := by
  unfold marks
  rw [List.replicate_succ', List.flatten_append]
  simp
theorem marks_take (n m : Nat) (pt : List Value) (h : n ≤ m) : (marks m pt).take (n * pt.length) = marks n pt := by
  obtain ⟨d, rfl⟩ : ∃ d, m = n + d := ⟨m - n, by omega⟩
  have : marks (n + d) pt = marks n pt ++ marks d pt := by
    unfold marks
    rw [← List.replicate_append_replicate, List.flatten_append]
  rw [this, List.take_left' (marks_len n pt)]
theorem marks_at (n : Nat) (pt : List Value) (j i : Nat) (hj : j < n) (hi : i < pt.length) : (marks n pt)[j * pt.length + i]? = pt[i]? := by
  have h1 := marks_take j n pt (by omega)
  have h2 := marks_take (j + 1) n pt hj
  rw [marks_succ] at h2
  have h3 : ((marks n pt).take ((j + 1) * pt.length))[j * pt.length + i]? = pt[i]? := by
    rw [h2, List.getElem?_append_right (by rw [marks_len]; omega), marks_len]
    congr 1
    omega
  rw [List.getElem?_take, if_pos (by rw [Nat.add_mul]; omega)] at h3
  exact h3
/-- a list that reads as its owner wrote it -/
def MkAt (W : World) (t : TypeId) (pt : List Value) (v : Value) : Prop := (v = .slice none 0 0) ∨ ∃ b n c cur, v = .slice (some ⟨b, 0, none⟩) n c ∧ W.heap[b]? = some (.cells cur t (0, 0)) ∧ cur.toList.take (n * pt.length) = marks n pt ∧ n ≤ maxLen
theorem MkAt.of_own {W : World} {B t n : Nat} {pt : List Value} {v : Value} (h : W.ownsRow B t pt.length v n (marks n pt)) : MkAt W t pt v := by
  rcases h.2 with ⟨e, _⟩ | ⟨g, cap, cur, e, _, hg, hc, hm, _, ht⟩
  · exact Or.inl e
  · exact Or.inr ⟨g, n, cap, cur, e, hg, ht, Nat.le_trans hc hm⟩
theorem MkAt.of_block {W W' : World} {t : TypeId} {pt : List Value} {v : Value} (h : MkAt W t pt v) (hb : ∀ k, v.ownBlock = some k → W'.heap[k]? = W.heap[k]?) : MkAt W' t pt v := by
  rcases h with e | ⟨b, n, c, cur, rfl, h1, h2⟩
  · exact Or.inl e
  · exact Or.inr ⟨b, n, c, cur, rfl, (hb b rfl).trans h1, h2⟩
theorem MkAt.lt {W : World} {t : TypeId} {pt : List Value} {v : Value} (h : MkAt W t pt v) (k : Nat) (hk : v.ownBlock = some k) : k < W.heap.size := by
  rcases h with rfl | ⟨b, n, c, cur, rfl, h1, h2⟩
  · cases hk
  · cases hk; exact (Array.getElem?_eq_some_iff.1 h1).1
theorem MkAt.ty {W : World} {t : TypeId} {pt : List Value} {v : Value} (h : MkAt W t pt v) (k : Nat) (hk : v.ownBlock = some k) : ∃ cur, W.heap[k]? = some (.cells cur t (0, 0)) := by
  rcases h with rfl | ⟨b, n, c, cur, rfl, h1, h2⟩
  · cases hk
  · cases hk; exact ⟨cur, h1⟩
/-- one is put behind the row x: what was marked stays so -/
theorem MkAt.step {W W' : World} {B t n : Nat} {pt : List Value} {v x : Value} (h : MkAt W t pt v) (hx : W'.ownsRow B t pt.length x n (marks n pt)) (hg : W.grownBy W' x.ownBlock) (hl : lenOf v ≤ n) : MkAt W' t pt v := by
  by_cases hv : v.ownBlock = x.ownBlock
  · rcases h with e | ⟨b, m, c, cur, rfl, h1, h2⟩
    · exact Or.inl e
    · obtain ⟨h2, hmx⟩ := h2
      have hl' : m ≤ n := hl
      rcases hx.2 with ⟨rfl, _⟩ | ⟨g, cap, cur', rfl, _, hg', _, _, _, ht⟩
      · cases hv
      · have hbg : b = g := by simpa [Value.ownBlock] using hv
        subst hbg
        refine Or.inr ⟨b, m, c, cur', rfl, hg', ?_, hmx⟩
        rw [← marks_take m n pt hl', ← ht, List.take_take, Nat.min_eq_left (Nat.mul_le_mul_right _ hl')]
  · exact h.of_block (fun k hk => hg.block k (h.lt k hk) (by rw [← hk]; exact hv))
theorem MkAt.form {W : World} {t : TypeId} {pt : List Value} {v : Value} (h : MkAt W t pt v) : ∃ ao n c, v = .slice ao n c ∧ n ≤ maxLen ∧ ∀ j i u, j < n → pt[i]? = some u → ∃ b, ao = some ⟨b, 0, none⟩ ∧ W.cell? ⟨b, j * pt.length + i, none⟩ = some u := by
  rcases h with rfl | ⟨b, n, c, cur, rfl, h1, h2⟩
  · exact ⟨none, 0, 0, rfl, Nat.zero_le _, fun j i u hj => by omega⟩
  · obtain ⟨h2, hmx⟩ := h2
    refine ⟨_, n, c, rfl, hmx, fun j i u hj hi => ⟨b, rfl, ?_⟩⟩
    have hil := (List.getElem?_eq_some_iff.1 hi).1
    have h3 := marks_at n pt j i hj hil
    rw [← h2, List.getElem?_take, if_pos (by have := Nat.mul_le_mul_right pt.length (show j + 1 ≤ n from hj); rw [Nat.add_mul] at this; omega), hi] at h3
    simp only [World.cell?, h1]
    simpa using h3
end Go.Proofs.YtmipbiligijcpaaGreatDoor
namespace Go.Proofs.YtmipbiligijcpaaGreatDoor
set_option linter.unusedVariables false
set_option linter.unusedSimpArgs false
open Go.RowKit Go.Proofs Go.Maps

theorem infoNums : (Tryz.prog.info? 23).map (fun i => (i.zero, i.size, i.bytes)) = some (some (.slice none 0 0), 1, 24) := by kernel_rfl
def bookCells (l2 l3 wt rt : Value) : Array Value := #[.slice none 0 0, l2, l3, .slice none 0 0, .slice none 0 0, wt, rt, .slice none 0 0, .slice none 0 0]
/-- what a list's writing leaves: the list, and what stands behind it, read as they were written -/
structure NumS (w W : World) (bb B : Nat) (lv l2 l2' l3 wt rt : Value) (ls : List Value) (mk : Int) (x y z : Value) : Prop where
  box : W.heap[bb]? = some (.cells (bookCells l2' l3 wt rt) 32 (0, 0))
  row : W.ownsRow B 23 1 l2' (ls.length + 4) (ls ++ [lv, x, y, z])
  mks : ∀ v ∈ [lv, x, y, z], MkAt W 2 [.int .i64 mk] v ∧ (v.ownBlock = lv.ownBlock ∨ ∃ q, v.ownBlock = some q ∧ w.heap.size ≤ q)
  new : l2'.ownBlock = l2.ownBlock ∨ ∃ q, l2'.ownBlock = some q ∧ w.heap.size ≤ q
  fr : Fr (fun k => k ≠ bb ∧ some k ≠ lv.ownBlock ∧ some k ≠ l2.ownBlock) w W
theorem own_ne_bx {w : World} {bb B n e size : Nat} {v : Value} {xs : List Value} {cs : Array Value} {t : TypeId} (h : w.ownsRow B e size v n xs) (hb : w.heap[bb]? = some (.cells cs t (0, 0))) (he : e ≠ t) : some bb ≠ v.ownBlock := by
  intro e0
  obtain ⟨c1, f1, h1⟩ := own_cells h bb e0.symm
  rw [h1] at hb
  simp at hb
  exact he hb.2.1
/-- the row l, and what was put behind it, one after another -/
structure AP (w W : World) (B t n : Nat) (pt : List Value) (l x : Value) (V : List Value) : Prop where
  row : W.ownsRow B t pt.length x n (marks n pt)
  mks : ∀ v ∈ V, MkAt W t pt v ∧ lenOf v ≤ n ∧ (v.ownBlock = l.ownBlock ∨ ∃ q, v.ownBlock = some q ∧ w.heap.size ≤ q)
  xb : x.ownBlock = l.ownBlock ∨ ∃ q, x.ownBlock = some q ∧ w.heap.size ≤ q
  fr : Fr (fun k => some k ≠ l.ownBlock) w W
theorem AP.base {w W : World} {B t n : Nat} {pt : List Value} {l x : Value} {V : List Value} (h : AP w W B t n pt l x V) (hB : B ≤ w.heap.size) (o : Obj) : B ≤ (W.alloc o).heap.size := by
  have := h.fr.size
  simp
  omega
theorem AP.step {w W W2 : World} {B t n : Nat} {pt : List Value} {l x x' : Value} {V : List Value} {o : Obj} (h : AP w W B t n pt l x V) (h1 : W2.ownsRow B t pt.length x' (n + 1) (marks n pt ++ pt)) (h2 : W2.ownsRow B t pt.length x n (marks n pt)) (hg : (W.alloc o).grownBy W2 x.ownBlock) (hn : x'.ownBlock = x.ownBlock ∨ x'.ownBlock = some (W.alloc o).heap.size) : AP w W2 B t (n + 1) pt l x' (V ++ [x']) := by
  have hga : W.grownBy W2 x.ownBlock := (World.grownBy_alloc W o _).trans hg
  rw [← marks_succ] at h1
  have hsz := h.fr.size
  have hxb : x'.ownBlock = l.ownBlock ∨ ∃ q, x'.ownBlock = some q ∧ w.heap.size ≤ q := by
    rcases hn with e | e
    · rw [e]; exact h.xb
    · exact Or.inr ⟨_, e, by simp; omega⟩
  refine ⟨h1, ?_, hxb, ?_⟩
  · intro v hv
    rcases List.mem_append.1 hv with hv | hv
    · obtain ⟨a, b, c⟩ := h.mks v hv
      exact ⟨a.step h2 hga b, by omega, c⟩
    · simp only [List.mem_singleton] at hv
      subst hv
      refine ⟨MkAt.of_own h1, ?_, hxb⟩
      obtain ⟨a, c, rfl⟩ := sl_of_own h1
      exact Nat.le_refl _
  · refine h.fr.grown hga (fun k hk hp e => ?_)
    rcases h.xb with e2 | ⟨q, e2, hq⟩
    · exact hp (e.trans e2)
    · rw [e2] at e
      cases e
      omega
theorem cell_four (w : World) (a b c d : Value) (t : TypeId) : ∀ j u, [a, b, c, d][j]? = some u → (w.alloc (.cells #[a, b, c, d] t)).cell? ((⟨w.heap.size, 0, none⟩ : Addr).add j) = some u := by
  intro j u hj
  match j, hj with
  | 0, hj => simp at hj; subst hj; simp [Addr.add]
  | 1, hj => simp at hj; subst hj; simp [Addr.add]
  | 2, hj => simp at hj; subst hj; simp [Addr.add]
  | 3, hj => simp at hj; subst hj; simp [Addr.add]
theorem set_marks (k n : Nat) (a : Value) (xs : List Value) (hk : k < xs.length) : (marks k [a] ++ xs.drop k).set k a = marks (k + 1) [a] ++ xs.drop (k + 1) := by
  have hm : (marks k [a]).length = k := by rw [marks_len]; simp
  rw [List.set_append_right _ _ (by omega), hm, Nat.sub_self, List.drop_eq_getElem_cons hk, List.set_cons_zero, marks_succ]
  simp
theorem num_done {o : Obj} {w W W5 : World} {bb B n : Nat} {lv l2 l2' l3 wt rt x y z xx : Value} {ls : List Value} {mk : Int} (h : AP w W B 2 n [.int .i64 mk] lv xx ([lv] ++ [x] ++ [y] ++ [z])) (hbox : W.heap[bb]? = some (.cells (bookCells l2 l3 wt rt) 32 (0, 0))) (hr : W.ownsRow B 23 1 l2 ls.length ls) (hne : some bb ≠ l2.ownBlock) (hbz : bb < w.heap.size) (hg : W.grownBy W5 l2.ownBlock) (ho : W5.ownsRow B 23 1 l2' (ls.length + 4) (ls ++ [lv, x, y, z])) (hn : l2'.ownBlock = l2.ownBlock ∨ l2'.ownBlock = some (W.alloc o).heap.size) : NumS w (W5.setCell ⟨bb, 1, none⟩ l2') bb B lv l2 l2' l3 wt rt ls mk x y z := by
  have hz := h.fr.size
  have hb5 : W5.heap[bb]? = some (.cells (bookCells l2 l3 wt rt) 32 (0, 0)) := (hg.block bb (by omega) hne).trans hbox
  have hs := grown_self W5 bb 1 l2'
  refine ⟨?_, ?_, ?_, ?_, ?_⟩
  · rw [heap_setCell_same _ _ _ _ _ _ hb5]; rfl
  · refine ho.kept hs ?_
    have := own_ne_bx ho hb5 (by decide)
    exact Or.inr (fun e => this e.symm)
  · intro v hv
    obtain ⟨a, _, c⟩ := h.mks v (by simpa using hv)
    refine ⟨a.of_block (fun k hk => ?_), c⟩
    obtain ⟨cur, hc⟩ := a.ty k hk
    have hkl := a.lt k hk
    have e1 : some k ≠ l2.ownBlock := by
      intro e
      obtain ⟨c1, f1, h1⟩ := own_cells hr k e.symm
      rw [h1] at hc
      simp at hc
    have e2 : k ≠ bb := by
      intro e
      subst e
      rw [hbox] at hc
      simp at hc
    exact (Below.heap_setCell _ _ _ _ e2).trans (hg.block k hkl e1)
  · rcases hn with e | e
    · exact Or.inl e
    · exact Or.inr ⟨_, e, by simp; omega⟩
  · refine (h.fr.mono (Q := fun k => k ≠ bb ∧ some k ≠ lv.ownBlock ∧ some k ≠ l2.ownBlock) (fun k _ hp => hp.2.1)).trans (Q := fun k => k ≠ bb ∧ some k ≠ l2.ownBlock) ?_ (fun k _ hp => ⟨hp.1, hp.2.2⟩)
    refine ⟨hg.os, hg.tape, hg.output, by have := hg.size; simp [World.setCell]; omega, fun k hk hp => ?_⟩
    exact (Below.heap_setCell _ _ _ _ hp.1).trans (hg.block k hk hp.2)
set_option maxHeartbeats 4000000 in
set_option maxRecDepth 100000 in
theorem numbers_any (bb B q : Nat) (la l2a : Option Addr) (lc l2c : Nat) (xs : List Int) (l3 wt rt : Value) (ls : List Value) (w : World)
    (hbox : w.heap[bb]? = some (.cells (bookCells (.slice l2a ls.length l2c) l3 wt rt) 32 (0, 0)))
    (hr2 : w.ownsRow B 23 1 (.slice l2a ls.length l2c) ls.length ls)
    (hl : w.ownsRow B 2 1 (.slice la xs.length lc) xs.length (xs.map (Value.int .i64)))
    (hB : B ≤ w.heap.size) (hn : xs.length ≤ 4000) (hL : ls.length ≤ 100000) (hq : ls.length = 4 * q) :
    Calls Tryz.prog 58 #[.pointer (some ⟨bb, 0, none⟩), .slice la xs.length lc] w fun e W => e = .returned (.tuple #[]) ∧ ∃ l2a' l2c' x y z, NumS w W bb B (.slice la xs.length lc) (.slice l2a ls.length l2c) (.slice l2a' (ls.length + 4) l2c') l3 wt rt ls (-7 - (q : Int)) x y z := by
  obtain ⟨i1, hi, hz0, hz1, hz2⟩ := info_parts info64
  have HI : Hid (Tryz.prog.info? 2 = some i1 ∧ i1.zero = some (.int .i64 0) ∧ i1.size = 1 ∧ i1.bytes = 8) := ⟨hi, hz0, hz1, hz2⟩
  clear hi hz0 hz1 hz2
  obtain ⟨i2, hi, hz0, hz1, hz2⟩ := info_parts infoNums
  have HI2 : Hid (Tryz.prog.info? 23 = some i2 ∧ i2.zero = some (.slice none 0 0) ∧ i2.size = 1 ∧ i2.bytes = 24) := ⟨hi, hz0, hz1, hz2⟩
  clear hi hz0 hz1 hz2
  obtain ⟨hx1, hx2⟩ := box_cells hbox
  have hdv : ((ls.length : Nat) : Int).tdiv 4 = (q : Int) := by rw [hq]; simp [Int.tdiv]
  have hw1 : wrap64 (q : Int) = q := by unfold wrap64; omega
  have hw2 : wrap64 (-7 - (q : Int)) = -7 - q := by unfold wrap64; omega
  clear hq
  go_enter Tryz.func58, Tryz.ntmps58
  simp only [bookCells] at hx1
  go_wp2_with fail
  have hbz : bb < w.heap.size := (Array.getElem?_eq_some_iff.1 hbox).1
  have HB0 : Hid (some bb ≠ (Value.slice la xs.length lc).ownBlock ∧ some bb ≠ (Value.slice l2a ls.length l2c).ownBlock ∧ ((Value.slice l2a ls.length l2c).ownBlock = none ∨ (Value.slice l2a ls.length l2c).ownBlock ≠ (Value.slice la xs.length lc).ownBlock)) := ⟨own_ne_bx hl hbox (by decide), own_ne_bx hr2 hbox (by decide), own_ne_ty hr2 hl (by decide)⟩
  have HL0 := (show Hid _ from hl)
  have HX := (show Hid _ from And.intro hbox hr2)
  clear hx1 hx2 hl hbox hr2
  go_loopw [5] (fun i wr => ∃ k : Nat, i = .int .i64 k ∧ k ≤ xs.length ∧ Hid (wr.ownsRow B 2 1 (.slice la xs.length lc) xs.length (marks k [.int .i64 (-7 - (q : Int))] ++ (xs.map (Value.int .i64)).drop k)) ∧ Hid (w.grownBy wr (Value.slice la xs.length lc).ownBlock)) (fun i _ => xs.length - (intOf i).toNat)
  case atStart => exact ⟨0, rfl, Nat.zero_le _, (by show World.ownsRow _ _ _ _ _ _ _; rw [marks_zero, List.nil_append, List.drop_zero]; exact HL0.out), ⟨rfl, rfl, rfl, Nat.le_refl _, fun _ _ _ => rfl⟩⟩
  case round =>
    obtain ⟨k, rfl, hk, HR, HG⟩ := hrel
    by_cases hlt : k < xs.length
    · have hki : (k : Int) < (xs.length : Int) := by omega
      obtain ⟨g, rfl⟩ : ∃ g, la = some ⟨g, 0, none⟩ := by
        rcases HR.out.2 with ⟨_, e⟩ | ⟨g, cap, cur, e, _⟩
        · omega
        · cases e; exact ⟨g, rfl⟩
      obtain ⟨cx, cf⟩ : (∃ u, wr.cell? ⟨g, k, none⟩ = some u) ∧ wr.frozen? ⟨g, k, none⟩ = false := by
        rcases HR.out.2 with ⟨e, _⟩ | ⟨g', cap, cur, e, _, hg, hc, _, hs, _⟩
        · cases e
        · cases e
          refine ⟨⟨cur[k]'(by omega), by simp [World.cell?, hg]⟩, by simp [World.frozen?, hg]⟩
      obtain ⟨u, cu⟩ := cx
      go_wp2_with fail
      obtain ⟨s1, s2⟩ := HR.out.stored k (.int .i64 (-7 - (q : Int)))
      rw [set_marks k xs.length _ _ (by simp; exact hlt)] at s1
      refine ⟨⟨k + 1, rfl, by omega, s1, HG.out.trans s2⟩, by simp only [intOf]; omega⟩
    · obtain rfl : k = xs.length := by omega
      have hki : ¬ ((xs.length : Int) < (xs.length : Int)) := by omega
      have hfin := HR.out
      rw [List.drop_eq_nil_of_le (by simp), List.append_nil] at hfin
      have hap : AP w wr B 2 xs.length [.int .i64 (-7 - (q : Int))] (.slice la xs.length lc) (.slice la xs.length lc) [.slice la xs.length lc] := by
        refine ⟨hfin, ?_, Or.inl rfl, Fr.of_grown HG.out (fun _ _ h => h)⟩
        intro v hv
        simp only [List.mem_singleton] at hv
        subst hv
        exact ⟨MkAt.of_own hfin, Nat.le_refl _, Or.inl rfl⟩
      have HA := (show Hid _ from hap)
      clear hfin HR hap HG HL0
      have b1 : xs.length + 1 ≤ maxLen := by unfold maxLen; omega
      have b2 : (xs.length + 1) * 8 ≤ 140737488355328 := by omega
      have b3 : xs.length + 1 + 1 ≤ maxLen := by unfold maxLen; omega
      have b4 : (xs.length + 1 + 1) * 8 ≤ 140737488355328 := by omega
      have b5 : xs.length + 1 + 1 + 1 ≤ maxLen := by unfold maxLen; omega
      have b6 : (xs.length + 1 + 1 + 1) * 8 ≤ 140737488355328 := by omega
      have b7 : ls.length + 4 ≤ maxLen := by unfold maxLen; omega
      have b8 : (ls.length + 4) * 24 ≤ 140737488355328 := by omega
      go_upto_region 8 with (first
        | (at_builtin; refine wpList_append_keep _ rfl (.tmp 26) (.tmp 28) 23 rfl B 2 i1 (.int .i64 0) 1 8 Tryz.underlying23 HI.out.1 HI.out.2.1 HI.out.2.2.1 HI.out.2.2.2 rfl (by decide) (.slice la xs.length lc) xs.length (marks xs.length [.int .i64 (-7 - (q : Int))]) rfl (HA.out.row.alloc _) ⟨wr.heap.size, 0, none⟩ 1 1 [.int .i64 (-7 - (q : Int))] rfl rfl (cell_one_new _ _ _) (by intro u hu; simp at hu; subst hu; rfl) b1 b2 (HA.out.base hB _) ?_; intro x W1 o1 k1 g1 n1; have hap1 := HA.out.step o1 k1 g1 n1; obtain ⟨xa, xc, rfl⟩ := sl_of_own o1; have HA1 := (show Hid _ from hap1); clear o1 k1 g1 n1 hap1)
        | (at_builtin; refine wpList_append_keep _ rfl (.tmp 30) (.tmp 32) 23 rfl B 2 i1 (.int .i64 0) 1 8 Tryz.underlying23 HI.out.1 HI.out.2.1 HI.out.2.2.1 HI.out.2.2.2 rfl (by decide) (.slice xa (xs.length + 1) xc) (xs.length + 1) (marks (xs.length + 1) [.int .i64 (-7 - (q : Int))]) rfl (HA1.out.row.alloc _) ⟨W1.heap.size, 0, none⟩ 1 1 [.int .i64 (-7 - (q : Int))] rfl rfl (cell_one_new _ _ _) (by intro u hu; simp at hu; subst hu; rfl) b3 b4 (HA1.out.base hB _) ?_; intro y W2 o1 k1 g1 n1; have hap1 := HA1.out.step o1 k1 g1 n1; obtain ⟨ya, yc, rfl⟩ := sl_of_own o1; have HA2 := (show Hid _ from hap1); clear o1 k1 g1 n1 hap1)
        | (at_builtin; refine wpList_append_keep _ rfl (.tmp 34) (.tmp 36) 23 rfl B 2 i1 (.int .i64 0) 1 8 Tryz.underlying23 HI.out.1 HI.out.2.1 HI.out.2.2.1 HI.out.2.2.2 rfl (by decide) (.slice ya (xs.length + 1 + 1) yc) (xs.length + 1 + 1) (marks (xs.length + 1 + 1) [.int .i64 (-7 - (q : Int))]) rfl (HA2.out.row.alloc _) ⟨W2.heap.size, 0, none⟩ 1 1 [.int .i64 (-7 - (q : Int))] rfl rfl (cell_one_new _ _ _) (by intro u hu; simp at hu; subst hu; rfl) b5 b6 (HA2.out.base hB _) ?_; intro z W3 o1 k1 g1 n1; have hap1 := HA2.out.step o1 k1 g1 n1; obtain ⟨za, zc, rfl⟩ := sl_of_own o1; have HA3 := (show Hid _ from hap1); clear o1 k1 g1 n1 hap1))
      have hbx3 : W3.heap[bb]? = some (.cells (bookCells (.slice l2a ls.length l2c) l3 wt rt) 32 (0, 0)) := (HA3.out.fr.block bb hbz HB0.out.1).trans HX.out.1
      have hr3 : W3.ownsRow B 23 1 (.slice l2a ls.length l2c) ls.length ls := HA3.out.fr.own HX.out.2 (fun k hk e => by
        rcases HB0.out.2.2 with h | h
        · rw [hk] at h; cases h
        · exact h (hk.trans e))
      obtain ⟨x1, x2⟩ := box_cells hbx3
      simp only [bookCells] at x1
      have HX3 := (show Hid _ from And.intro hbx3 hr3)
      clear hbx3 hr3
      have hB3 : B ≤ (W3.alloc (.cells #[.slice la xs.length lc, .slice xa (xs.length + 1) xc, .slice ya (xs.length + 1 + 1) yc, .slice za (xs.length + 1 + 1 + 1) zc] 23)).heap.size := HA3.out.base hB _
      go_wp2_with (at_builtin; refine wpList_append_own_at _ rfl (.tmp 42) (.tmp 47) 26 rfl B 23 i2 (.slice none 0 0) 1 24 Tryz.underlying26 HI2.out.1 HI2.out.2.1 HI2.out.2.2.1 HI2.out.2.2.2 rfl (by decide) (.slice l2a ls.length l2c) ls.length ls rfl (HX3.out.2.alloc _) ⟨W3.heap.size, 0, none⟩ 4 4 [.slice la xs.length lc, .slice xa (xs.length + 1) xc, .slice ya (xs.length + 1 + 1) yc, .slice za (xs.length + 1 + 1 + 1) zc] rfl rfl (cell_four _ _ _ _ _ _) (by intro u hu; simp at hu; rcases hu with rfl | rfl | rfl | rfl <;> rfl) b7 b8 hB3 ?_; intro l2' W5 o5 g5 _ n5; obtain ⟨l2a', l2c', rfl⟩ := sl_of_own o5; have hga := (World.grownBy_alloc W3 (.cells #[.slice la xs.length lc, .slice xa (xs.length + 1) xc, .slice ya (xs.length + 1 + 1) yc, .slice za (xs.length + 1 + 1 + 1) zc] 23) _).trans g5; have hz3 := HA3.out.fr.size; obtain ⟨y1, y2⟩ := box_cells ((hga.block bb (by omega) HB0.out.2.1).trans HX3.out.1); simp only [bookCells] at y1)
      go_end0

      refine ⟨rfl, l2a', l2c', .slice xa (xs.length + 1) xc, .slice ya (xs.length + 1 + 1) yc, .slice za (xs.length + 1 + 1 + 1) zc, ?_⟩
      exact num_done HA3.out HX3.out.1 HX3.out.2 HB0.out.2.1 hbz hga o5 n5
end Go.Proofs.YtmipbiligijcpaaGreatDoor
