/- A part of the proof: contracts of functions of the program. -/
import Derived.Test.YtnmgdcmeomkocaaGreatDoorA31
import Derived.Test.YtnmgdcmeomkocaaGreatDoorA39
import Derived.Test.YtnmgdcmeomkocaaGreatDoorA38
import Derived.ArgAppend
namespace Go.Proofs.YtnmgdcmeomkocaaGreatDoor
set_option linter.unusedVariables false
set_option linter.unusedSimpArgs false
open Go.RowKit Go.Proofs Go.Maps

theorem doc_nil (w w' : World) (e : Int) (hb : Below w.heap.size w w') : DocAns w (e, (0, [], []), 0) (.returned (.tuple #[.agg #[.int .i64 0, .slice none 0 0, .slice none 0 0], .int .i64 e])) w' :=
  ⟨hb, none, 0, none, 0, [], rfl, World.ownsRow_nil _ _ _ _, World.ownsRow_nil _ _ _ _, rfl, by simp⟩
set_option maxHeartbeats 1000000 in
set_option maxRecDepth 100000 in
theorem rrun_err (s : ByteArray) (ins : List Int) (ia : Option Addr) (ic : Nat) (fuel : Int) (b : Bool) (w : World) (hr : prs s = .inl b) :
    Calls Tryz.prog 13 #[.string s, .slice ia ins.length ic, .int .i64 fuel] w (DocAns w (runR s ins fuel)) := by
  have HP := (show Hid _ from rparse_any s (w.alloc (.cells #[.int .i64 0, .slice none 0 0, .slice none 0 0] 43)))
  rw [hr] at HP
  have hrr : runR s ins fuel = (if b then 2 else 1, (0, [], []), 0) := by unfold runR; rw [hr]; cases b <;> rfl
  rw [hrr]
  have HW : Hid ((w.alloc (.cells #[.int .i64 0, .slice none 0 0, .slice none 0 0] 43)).heap[w.heap.size]? = some (.cells #[.int .i64 0, .slice none 0 0, .slice none 0 0] 43 (0, 0))) := heap_alloc_new w _
  clear hrr hr
  cases b with
  | true =>
    go_enter Tryz.func13, Tryz.ntmps13
    go_wp2_with fail
    refine Calls.mono HP.out ?_
    rintro e W1 ⟨hb1, rfl⟩
    obtain ⟨rx1, rx2⟩ := box_cells ((hb1.block w.heap.size (by simp)).trans HW.out)
    go_wp2_with fail
    refine bodyPost_ret (v := .tuple #[.agg #[.int .i64 0, .slice none 0 0, .slice none 0 0], .int .i64 2]) (by simp [results, Tryz.results13, go_sem, rx1]) rfl ?_
    refine doc_nil _ _ _ ?_
    have hl : Below w.heap.size w W1 := ((Below.refl w.heap.size w).alloc (Nat.le_refl _) _).trans (hb1.mono (by simp))
    exact ((hl.setCell (Nat.le_refl _) _).setCell (Nat.le_refl _) _).setCell (Nat.le_refl _) _
  | false =>
    go_enter Tryz.func13, Tryz.ntmps13
    go_wp2_with fail
    refine Calls.mono HP.out ?_
    rintro e W1 ⟨hb1, rfl⟩
    obtain ⟨rx1, rx2⟩ := box_cells ((hb1.block w.heap.size (by simp)).trans HW.out)
    go_wp2_with fail
    refine bodyPost_ret (v := .tuple #[.agg #[.int .i64 0, .slice none 0 0, .slice none 0 0], .int .i64 1]) (by simp [results, Tryz.results13, go_sem, rx1]) rfl ?_
    refine doc_nil _ _ _ ?_
    have hl : Below w.heap.size w W1 := ((Below.refl w.heap.size w).alloc (Nat.le_refl _) _).trans (hb1.mono (by simp))
    exact ((hl.setCell (Nat.le_refl _) _).setCell (Nat.le_refl _) _).setCell (Nat.le_refl _) _
set_option maxHeartbeats 1000000 in
set_option maxRecDepth 100000 in
theorem rrun_arg (s : ByteArray) (ins : List Int) (ia : Option Addr) (ic : Nat) (fuel : Int) (pl : List PN) (vs : List Nam) (w : World) (hr : prs s = .inr (pl, vs)) (ha : 100 < ins.length ∨ fuel < 0 ∨ 2000 < fuel) :
    Calls Tryz.prog 13 #[.string s, .slice ia ins.length ic, .int .i64 fuel] w (DocAns w (runR s ins fuel)) := by
  have HP := (show Hid _ from rparse_any s (w.alloc (.cells #[.int .i64 0, .slice none 0 0, .slice none 0 0] 43)))
  rw [hr] at HP
  have hrr : runR s ins fuel = (9, (0, [], []), 0) := by unfold runR; rw [hr]; simp only; rw [if_pos ha]
  rw [hrr]
  have HW : Hid ((w.alloc (.cells #[.int .i64 0, .slice none 0 0, .slice none 0 0] 43)).heap[w.heap.size]? = some (.cells #[.int .i64 0, .slice none 0 0, .slice none 0 0] 43 (0, 0))) := heap_alloc_new w _
  have HA : Hid (decide (100 < (ins.length : Int)) = true ∨ (decide (100 < (ins.length : Int)) = false ∧ decide (fuel < 0) = true) ∨ (decide (100 < (ins.length : Int)) = false ∧ decide (fuel < 0) = false ∧ decide (2000 < fuel) = true)) := by
    show _ ∨ _
    simp only [decide_eq_true_eq, decide_eq_false_iff_not]
    omega
  clear hrr hr ha
  go_enter Tryz.func13, Tryz.ntmps13
  go_wp2_with fail
  refine Calls.mono HP.out ?_
  rintro e W1 ⟨hb1, pb, g, cap, va, vc, xv, cl, evs, ps, rfl, hpb, hbx, hg, hN, hR, hps, hx, hxl, hxe⟩
  obtain ⟨rx1, rx2⟩ := box_cells ((hb1.block w.heap.size (by simp)).trans HW.out)
  clear hbx hN hR hps hx hxl hxe
  have ha := HA.out
  have hl : Below w.heap.size w W1 := ((Below.refl w.heap.size w).alloc (Nat.le_refl _) _).trans (hb1.mono (by simp))
  rcases ha with d1 | ⟨d1, d2⟩ | ⟨d1, d2, d3⟩
  all_goals
    go_wp2_with fail
    refine bodyPost_ret (v := .tuple #[.agg #[.int .i64 0, .slice none 0 0, .slice none 0 0], .int .i64 9]) (by simp [results, Tryz.results13, go_sem, rx1]) rfl ?_
    refine doc_nil _ _ _ ?_
    exact ((hl.setCell (Nat.le_refl _) _).setCell (Nat.le_refl _) _).setCell (Nat.le_refl _) _
theorem rrun_any (s : ByteArray) (ins : List Int) (ia : Option Addr) (ic : Nat) (fuel : Int) (w : World) (hI : InL w w.heap.size (.slice ia ins.length ic) ins) :
    Calls Tryz.prog 13 #[.string s, .slice ia ins.length ic, .int .i64 fuel] w (DocAns w (runR s ins fuel)) := by
  match hr : prs s with
  | .inl b => exact rrun_err s ins ia ic fuel b w hr
  | .inr (pl, vs) =>
    by_cases ha : 100 < ins.length ∨ fuel < 0 ∨ 2000 < fuel
    · exact rrun_arg s ins ia ic fuel pl vs w hr ha
    · obtain ⟨f, rfl⟩ : ∃ f : Nat, fuel = f := ⟨fuel.toNat, by omega⟩
      have h := rrun_core s ins ia ic f pl vs w hI (by omega) (by omega) hr (fun W => by have := rparse_any s W; rw [hr] at this; exact this)
      have hrr : runR s ins f = runG pl vs ins f := by unfold runR; rw [hr]; simp only; rw [if_neg ha]
      rw [hrr]
      exact h
end Go.Proofs.YtnmgdcmeomkocaaGreatDoor
namespace Go.Proofs.YtnmgdcmeomkocaaGreatDoor
set_option linter.unusedVariables false
set_option linter.unusedSimpArgs false
open Go.RowKit Go.Proofs Go.Maps

theorem run_append_keep {P : Program} (w : World) (base : Nat) (t ty e : TypeId) (i : TypeInfo) (z : Value) (size bytes : Nat) (ht : P.underlying t = some (.slice e)) (hi : P.info? e = some i) (hz : i.zero = some z)
    (hsize : i.size = size) (hby : i.bytes = bytes) (hzs : z.cells.size = size) (hsz : 0 < size)
    (v : Value) (n : Nat) (xs : List Value) (hown : w.ownsRow base e size v n xs)
    (a : Addr) (m c : Nat) (news : List Value) (hl : news.length = m * size) (hnews : ∀ j u, news[j]? = some u → w.cell? (a.add j) = some u) (h1 : ∀ u ∈ news, u.oneCell' = true)
    (h63 : n + m ≤ maxLen) (hbytes : (n + m) * bytes ≤ 140737488355328) (hbase : base ≤ w.heap.size) :
    ∃ v' w', (Builtin.append_ #[t, t] ty #[v, .slice (some a) m c]).run P w = .ok v' w' ∧ w'.ownsRow base e size v' (n + m) (xs ++ news) ∧ w'.ownsRow base e size v n xs ∧ w.grownBy w' v.ownBlock ∧ (v'.ownBlock = v.ownBlock ∨ v'.ownBlock = some w.heap.size) := by
  obtain ⟨v', w', hrun, r1, r2, _, r4⟩ := run_append_own_at (P := P) w base t ty e i z size bytes ht hi hz hsize hby hzs hsz v n xs hown a m c news hl hnews h1 h63 hbytes hbase
  refine ⟨v', w', hrun, r1, ?_, r2, r4⟩
  have hxl := hown.1
  rcases hown.2 with ⟨rfl, rfl⟩ | ⟨g, cap, cur, rfl, hb, hg, hc, hm, hs, htk⟩
  · obtain rfl : xs = [] := List.eq_nil_of_length_eq_zero (by simpa using hxl)
    exact World.ownsRow_nil _ _ _ _
  · by_cases hroom : n + m ≤ cap
    · have hin : ∀ j, j < news.length → 0 + n * i.size + j < cur.size := by
        intro j hj
        rw [hs, hsize]
        have h2 : (n + m) * size ≤ cap * size := Nat.mul_le_mul_right _ hroom
        rw [Nat.add_mul] at h2
        omega
      have hr := run_append_room_cells (P := P) w t ty e i ht hi g 0 n cap a m c news (by rw [hsize]; exact hl) hnews h1 hroom (by
        intro j hj
        simp only [World.cell?, hg]
        rw [Array.getElem?_eq_getElem (hin j hj)]
        rfl) (by
        intro j hj
        simp [World.frozen?, hg])
      rw [hr] at hrun
      cases hrun
      rcases r1.2 with ⟨e1, _⟩ | ⟨g', cap', cur', e1, _, hg', hc', hm', hs', htk'⟩
      · cases e1
      · cases e1
        refine ⟨hxl, Or.inr ⟨g, cap, cur', rfl, hb, hg', hc, hm, hs', ?_⟩⟩
        have h2 := congrArg (List.take (n * size)) htk'
        rw [List.take_take, Nat.min_eq_left (Nat.mul_le_mul_right _ (by omega)), List.take_left' hxl] at h2
        exact h2
    · obtain ⟨v2, w2, hrun2, _, g2⟩ := run_append_arg_grows (P := P) w t ty e i z size bytes ht hi hz hsize hby hzs hsz ⟨g, 0, none⟩ n cap xs hxl (hown.cells rfl) a m c news hl hnews (by omega) h63 hbytes
      rw [hrun2] at hrun
      cases hrun
      exact hown.kept g2 (Or.inr (by simp [Value.ownBlock]))
theorem wpList_append_keep {P : Program} (w : World) {ops : Array Oper} {rest : List Oper} {o : Oper} {a : Act} {Q : Exit → Act → World → Prop} (hgd : o.guard = none) (s x : Operand) (t : TypeId)
    (ho : o.op = .call { callee := .builtin .append, args := #[s, x], argTypes := #[t, t] })
    (base : Nat) (e : TypeId) (i : TypeInfo) (z : Value) (size bytes : Nat) (ht : P.underlying t = some (.slice e)) (hi : P.info? e = some i) (hz : i.zero = some z)
    (hsize : i.size = size) (hby : i.bytes = bytes) (hzs : z.cells.size = size) (hsz : 0 < size)
    (v : Value) (n : Nat) (xs : List Value) (hs : a.eval s = v) (hown : w.ownsRow base e size v n xs)
    (ad : Addr) (m c : Nat) (news : List Value) (hx : a.eval x = .slice (some ad) m c) (hl : news.length = m * size) (hnews : ∀ j u, news[j]? = some u → w.cell? (ad.add j) = some u) (h1 : ∀ u ∈ news, u.oneCell' = true)
    (h63 : n + m ≤ maxLen) (hbytes : (n + m) * bytes ≤ 140737488355328) (hbase : base ≤ w.heap.size)
    (h : ∀ v' w', w'.ownsRow base e size v' (n + m) (xs ++ news) → w'.ownsRow base e size v n xs → w.grownBy w' v.ownBlock → (v'.ownBlock = v.ownBlock ∨ v'.ownBlock = some w.heap.size) → wpList P ops Q rest (a.put o.dst v') w') :
    wpList P ops Q (o :: rest) a w := by
  refine wpList_plain hgd fun K hK => ?_
  obtain ⟨v', w', hr, h2, h3, h4, h5⟩ := run_append_keep (P := P) w base t o.type e i z size bytes ht hi hz hsize hby hzs hsz v n xs hown ad m c news hl hnews h1 h63 hbytes hbase
  unfold Oper.wp execOp
  simp only [ho, resolve, invoke, builtin, Sem.run_bind, Sem.run_pure, Result.andThen_ok, List.map_toArray, List.map_cons, List.map_nil, hs, hx, hr]
  exact hK _ _ (h v' w' h2 h3 h4 h5)

/-- what stands of a world: the blocks that P takes -/
structure Fr (P : Nat → Prop) (w w' : World) : Prop where
  os : w'.os = w.os
  tape : w'.tape = w.tape
  output : w'.output = w.output
  size : w.heap.size ≤ w'.heap.size
  block : ∀ k, k < w.heap.size → P k → w'.heap[k]? = w.heap[k]?
theorem Fr.refl (P : Nat → Prop) (w : World) : Fr P w w := ⟨rfl, rfl, rfl, Nat.le_refl _, fun _ _ _ => rfl⟩
theorem Fr.of_below {P : Nat → Prop} {w w' : World} (h : Below w.heap.size w w') : Fr P w w' := ⟨h.os, h.tape, h.output, h.size, fun k hk _ => h.block k hk⟩
theorem Fr.trans {P Q : Nat → Prop} {u v w : World} (h : Fr P u v) (k : Fr Q v w) (hi : ∀ x, x < u.heap.size → P x → Q x) : Fr P u w :=
  ⟨k.os.trans h.os, k.tape.trans h.tape, k.output.trans h.output, Nat.le_trans h.size k.size, fun x hx hp => (k.block x (Nat.lt_of_lt_of_le hx h.size) (hi x hx hp)).trans (h.block x hx hp)⟩
theorem Fr.of_grown {P : Nat → Prop} {w w' : World} {row : Option Nat} (h : w.grownBy w' row) (hP : ∀ k, k < w.heap.size → P k → some k ≠ row) : Fr P w w' := ⟨h.os, h.tape, h.output, h.size, fun k hk hp => h.block k hk (hP k hk hp)⟩
theorem Fr.grown {P : Nat → Prop} {u v w : World} {row : Option Nat} (h : Fr P u v) (k : v.grownBy w row) (hP : ∀ x, x < u.heap.size → P x → some x ≠ row) : Fr P u w :=
  ⟨k.os.trans h.os, k.tape.trans h.tape, k.output.trans h.output, Nat.le_trans h.size k.size, fun x hx hp => (k.block x (Nat.lt_of_lt_of_le hx h.size) (hP x hx hp)).trans (h.block x hx hp)⟩
theorem Fr.mono {P Q : Nat → Prop} {u v : World} (h : Fr P u v) (hi : ∀ x, x < u.heap.size → Q x → P x) : Fr Q u v :=
  ⟨h.os, h.tape, h.output, h.size, fun x hx hp => h.block x hx (hi x hx hp)⟩
theorem Fr.own {P : Nat → Prop} {w w' : World} {B e size n : Nat} {v : Value} {xs : List Value} (h : Fr P w w') (ho : w.ownsRow B e size v n xs) (hv : ∀ k, v.ownBlock = some k → P k) : w'.ownsRow B e size v n xs := by
  have hlt := ho.lt
  refine ⟨ho.1, ?_⟩
  rcases ho.2 with e0 | ⟨g, cap, cur, e1, c1, c2, c3⟩
  · exact Or.inl e0
  · subst e1
    exact Or.inr ⟨g, cap, cur, rfl, c1, (h.block g (hlt g rfl).2 (hv g rfl)).trans c2, c3⟩
theorem Fr.below {P : Nat → Prop} {w w' : World} {B : Nat} (h : Fr P w w') (hB : B ≤ w.heap.size) (hP : ∀ k, k < B → P k) : Below B w w' := ⟨h.os, h.tape, h.output, h.size, fun k hk => h.block k (by omega) (hP k hk)⟩
def marks (n : Nat) (pt : List Value) : List Value := (List.replicate n pt).flatten
theorem marks_len (n : Nat) (pt : List Value) : (marks n pt).length = n * pt.length := by
  unfold marks
  rw [List.length_flatten]
  simp
theorem marks_zero (pt : List Value) : marks 0 pt = [] := rfl
theorem marks_succ (n : Nat) (pt : List Value) : marks (n + 1) pt = marks n pt ++ pt := by
  unfold marks
  rw [List.replicate_succ', List.flatten_append]
  simp
theorem marks_take (n m : Nat) (pt : List Value) (h : n ≤ m) : (marks m pt).take (n * pt.length) = marks n pt := by
  obtain ⟨d, rfl⟩ : ∃ d, m = n + d := ⟨m - n, by omega⟩
  have : marks (n + d) pt = marks n pt ++ marks d pt := by
    unfold marks
    rw [← List.replicate_append_replicate, List.flatten_append]
  rw [this, List.take_left' (marks_len n pt)]
theorem marks_at (n : Nat) (pt : List Value) (j i : Nat) (hj : j < n) (hi : i < pt.length) : (marks n pt)[j * pt.length + i]? = pt[i]? := by
  have h1 := marks_take j n pt (by omega)
  have h2 := marks_take (j + 1) n pt hj
  rw [marks_succ] at h2
  have h3 : ((marks n pt).take ((j + 1) * pt.length))[j * pt.length + i]? = pt[i]? := by
    rw [h2, List.getElem?_append_right (by rw [marks_len]; omega), marks_len]
    congr 1
    omega
  rw [List.getElem?_take, if_pos (by rw [Nat.add_mul]; omega)] at h3
  exact h3
/-- a list that reads as its owner wrote it -/
def MkAt (W : World) (t : TypeId) (pt : List Value) (v : Value) : Prop := (v = .slice none 0 0) ∨ ∃ b n c cur, v = .slice (some ⟨b, 0, none⟩) n c ∧ W.heap[b]? = some (.cells cur t (0, 0)) ∧ cur.toList.take (n * pt.length) = marks n pt ∧ n ≤ maxLen
theorem MkAt.of_own {W : World} {B t n : Nat} {pt : List Value} {v : Value} (h : W.ownsRow B t pt.length v n (marks n pt)) : MkAt W t pt v := by
  rcases h.2 with ⟨e, _⟩ | ⟨g, cap, cur, e, _, hg, hc, hm, _, ht⟩
  · exact Or.inl e
  · exact Or.inr ⟨g, n, cap, cur, e, hg, ht, Nat.le_trans hc hm⟩
theorem MkAt.of_block {W W' : World} {t : TypeId} {pt : List Value} {v : Value} (h : MkAt W t pt v) (hb : ∀ k, v.ownBlock = some k → W'.heap[k]? = W.heap[k]?) : MkAt W' t pt v := by
  rcases h with e | ⟨b, n, c, cur, rfl, h1, h2⟩
  · exact Or.inl e
  · exact Or.inr ⟨b, n, c, cur, rfl, (hb b rfl).trans h1, h2⟩
theorem MkAt.lt {W : World} {t : TypeId} {pt : List Value} {v : Value} (h : MkAt W t pt v) (k : Nat) (hk : v.ownBlock = some k) : k < W.heap.size := by
  rcases h with rfl | ⟨b, n, c, cur, rfl, h1, h2⟩
  · cases hk
  · cases hk; exact (Array.getElem?_eq_some_iff.1 h1).1
theorem MkAt.ty {W : World} {t : TypeId} {pt : List Value} {v : Value} (h : MkAt W t pt v) (k : Nat) (hk : v.ownBlock = some k) : ∃ cur, W.heap[k]? = some (.cells cur t (0, 0)) := by
  rcases h with rfl | ⟨b, n, c, cur, rfl, h1, h2⟩
  · cases hk
  · cases hk; exact ⟨cur, h1⟩
/-- one is put behind the row x: what was marked stays so -/
theorem MkAt.step {W W' : World} {B t n : Nat} {pt : List Value} {v x : Value} (h : MkAt W t pt v) (hx : W'.ownsRow B t pt.length x n (marks n pt)) (hg : W.grownBy W' x.ownBlock) (hl : lenOf v ≤ n) : MkAt W' t pt v := by
  by_cases hv : v.ownBlock = x.ownBlock
  · rcases h with e | ⟨b, m, c, cur, rfl, h1, h2⟩
    · exact Or.inl e
    · obtain ⟨h2, hmx⟩ := h2
      have hl' : m ≤ n := hl
      rcases hx.2 with ⟨rfl, _⟩ | ⟨g, cap, cur', rfl, _, hg', _, _, _, ht⟩
      · cases hv
      · have hbg : b = g := by simpa [Value.ownBlock] using hv
        subst hbg
        refine Or.inr ⟨b, m, c, cur', rfl, hg', ?_, hmx⟩
        rw [← marks_take m n pt hl', ← ht, List.take_take, Nat.min_eq_left (Nat.mul_le_mul_right _ hl')]
  · exact h.of_block (fun k hk => hg.block k (h.lt k hk) (by rw [← hk]; exact hv))
theorem MkAt.form {W : World} {t : TypeId} {pt : List Value} {v : Value} (h : MkAt W t pt v) : ∃ ao n c, v = .slice ao n c ∧ n ≤ maxLen ∧ ∀ j i u, j < n → pt[i]? = some u → ∃ b, ao = some ⟨b, 0, none⟩ ∧ W.cell? ⟨b, j * pt.length + i, none⟩ = some u := by
  rcases h with rfl | ⟨b, n, c, cur, rfl, h1, h2⟩
  · exact ⟨none, 0, 0, rfl, Nat.zero_le _, fun j i u hj => by omega⟩
  · obtain ⟨h2, hmx⟩ := h2
    refine ⟨_, n, c, rfl, hmx, fun j i u hj hi => ⟨b, rfl, ?_⟩⟩
    have hil := (List.getElem?_eq_some_iff.1 hi).1
    have h3 := marks_at n pt j i hj hil
    rw [← h2, List.getElem?_take, if_pos (by have := Nat.mul_le_mul_right pt.length (show j + 1 ≤ n from hj); rw [Nat.add_mul] at this; omega), hi] at h3
    simp only [World.cell?, h1]
    simpa using h3
end Go.Proofs.YtnmgdcmeomkocaaGreatDoor
