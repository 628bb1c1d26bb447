/- The document's answer: parsing. -/
import Derived.Test.YtmipbiligijcpaaGreatDoorR22
import Derived.Deep.RegionLaw
namespace Go.Proofs.YtmipbiligijcpaaGreatDoor
set_option linter.unusedVariables false
set_option linter.unusedSimpArgs false
open Go.RowKit Go.Proofs Go.Maps

theorem rparse_long (s : ByteArray) (w : World) (h : decide (3000 < (s.size : Int)) = true) :
    Calls Tryz.prog 38 #[.string s] w fun e w' => e = .returned (.tuple #[.pointer none, .int .i64 1]) ∧ w' = w := by
  go_enter Tryz.func38, Tryz.ntmps38
  go_wp2
  go_ret2
  exact ⟨rfl, rfl⟩
def RPAns (w : World) (r : Pr) (e : Ending) (w' : World) : Prop :=
  Below w.heap.size w w' ∧
  match r with
  | .inl false => e = .returned (.tuple #[.pointer none, .int .i64 1])
  | .inl true => e = .returned (.tuple #[.pointer none, .int .i64 2])
  | .inr (pl, vs) => ∃ pb g cap va vc xv cl evs ps, e = .returned (.tuple #[.pointer (some ⟨pb, 0, none⟩), .int .i64 0]) ∧ w.heap.size ≤ pb ∧ w'.heap[pb]? = some (.cells #[.slice (some ⟨g, 0, none⟩) pl.length cap, .slice va vs.length vc, xv] 107 (0, 0)) ∧ w.heap.size ≤ g ∧ Rrow w' g cap cl ∧ RReps w' cl pl ∧ plc 0 [] (pl.map PN.lab) = some ps ∧ w'.ownsRow w.heap.size 36 1 xv evs.length evs ∧ evs.length = pl.length ∧ (∀ (j : Nat) (ev : Value) (p : PN), evs[j]? = some ev → pl[j]? = some p → w'.ownsRow w.heap.size 3 1 ev (edgK ps p.nc j).length ((edgK ps p.nc j).map (Value.int .i64)))
/-- what the loop of lines keeps -/
structure PS (w : World) (s : ByteArray) (k : Nat) (nv : Value) (vs : List Nam) (vb : Option Nat) (acc : List PN) (cl : List RC) (W : World) : Prop where
  rp : Rp W w.heap.size (w.heap.size + 1) nv (.slice none 0 0) vs vb
  row : W.ownsRow (w.heap.size + 1) 111 13 nv cl.length (rrow cl)
  reps : RReps W cl acc
  far : ∀ c ∈ cl, ∀ a, c.wa = some a → some a.block ≠ vb
  low : Below w.heap.size w W
  vlen : vs.length ≤ 3 * k
  clen : cl.length ≤ k
theorem PS.below {w W W' : World} {s : ByteArray} {k : Nat} {nv : Value} {vs : List Nam} {vb : Option Nat} {acc : List PN} {cl : List RC} (h : PS w s k nv vs vb acc cl W) (hb : Below W.heap.size W W') : PS w s k nv vs vb acc cl W' :=
  ⟨h.rp.below hb, own_of_below h.row hb, h.reps.mono (ws_below hb), h.far, h.low.trans (hb.mono h.low.size), h.vlen, h.clen⟩
theorem PS.next {w W : World} {s : ByteArray} {k : Nat} {nv : Value} {vs : List Nam} {vb : Option Nat} {acc : List PN} {cl : List RC} (h : PS w s k nv vs vb acc cl W) : PS w s (k + 1) nv vs vb acc cl W :=
  ⟨h.rp, h.row, h.reps, h.far, h.low, by have := h.vlen; omega, by have := h.clen; omega⟩

theorem form_of_own {w : World} {B : Nat} {v : Value} {w0 : ByteArray} {r : List ByteArray} (h : w.ownsRow B 9 1 v (w0 :: r).length ((w0 :: r).map Value.string)) : ∃ A cap, v = .slice (some ⟨A, 0, none⟩) (r.length + 1) cap ∧ B ≤ A ∧ r.length + 1 ≤ cap ∧ cap ≤ maxLen ∧ Ws w A 0 (w0 :: r) := by
  rcases h.2 with ⟨_, h0⟩ | ⟨g, cap, cur, hv, hb, hg, hc, hm, _, ht⟩
  · simp at h0
  · exact ⟨g, cap, hv, hb, hc, hm, cur, hg, by simpa using ht⟩

/-! ### a line of the document's, and the program's -/
theorem lin_plain {vs : List Nam} {w0 : ByteArray} {r : List ByteArray} (h : colB w0 = false) : lin vs (w0 :: r) = (emp, 0, stm vs (w0 :: r)) := by simp [lin, h]
structure LineIs (vs : List Nam) (ws rw : List ByteArray) (lab : ByteArray) (k : Nat) : Prop where
  no : rst vs rw = none → (lin vs ws).2.2.2.1 = false
  yes : ∀ m vs', rst vs rw = some (m, vs') → (lin vs ws).1 = lab ∧ ws.drop (lin vs ws).2.1 = rw ∧ (lin vs ws).2.2.2.1 = true ∧ (lin vs ws).2.2.2.2 = vs' ∧ RelN m (lin vs ws).2.2.1
theorem line_plain {vs : List Nam} {w0 : ByteArray} {r : List ByteArray} (h : colB w0 = false) : LineIs vs (w0 :: r) (w0 :: r) emp 0 := by
  have hs := same_all vs (w0 :: r)
  rw [show LineIs vs (w0 :: r) (w0 :: r) emp 0 ↔ LineIs vs (w0 :: r) (w0 :: r) emp 0 from Iff.rfl]
  refine ⟨fun e => ?_, fun m vs' e => ?_⟩
  · rw [lin_plain h]; exact hs.no e
  · rw [lin_plain h]
    obtain ⟨a, b, c⟩ := hs.yes m vs' e
    exact ⟨rfl, rfl, a, b, c⟩
theorem line_bad {vs : List Nam} {w0 : ByteArray} {r : List ByteArray} (h : colB w0 = true) (hn : Wm.nm (labD w0) = false) : (lin vs (w0 :: r)).2.2.2.1 = false := by
  simp [lin, h, hn, noSt]
theorem line_lab {vs : List Nam} {w0 : ByteArray} {r : List ByteArray} (h : colB w0 = true) (hn : Wm.nm (labD w0) = true) : LineIs vs (w0 :: r) r (labD w0) 1 := by
  have hs := same_all vs r
  match r, hs with
  | [], _ =>
    refine ⟨fun _ => by simp [lin, h, hn, noSt], fun m vs' e => by simp [rst] at e⟩
  | x :: r, hs =>
    have hl : lin vs (w0 :: x :: r) = (labD w0, 1, stm vs (x :: r)) := by simp [lin, h, hn]
    refine ⟨fun e => ?_, fun m vs' e => ?_⟩
    · rw [hl]; exact hs.no e
    · rw [hl]
      obtain ⟨a, b, c⟩ := hs.yes m vs' e
      exact ⟨rfl, rfl, a, b, c⟩
theorem rdl_no {vs : List Nam} {acc : List PN} {ws : List ByteArray} {rest : List (List ByteArray)} (h : saysNo ws = false) (h2 : (lin vs ws).2.2.2.1 = false) : rdl vs acc (ws :: rest) = none := by
  rw [rdl, h, h2]; rfl
def pnOf (vs : List Nam) (ws : List ByteArray) : PN := ⟨(lin vs ws).1, ws.drop (lin vs ws).2.1, (lin vs ws).2.2.1⟩
theorem rdl_yes {vs vs' : List Nam} {acc : List PN} {ws rw : List ByteArray} {lab : ByteArray} {k : Nat} {m : RN} {rest : List (List ByteArray)} (h : saysNo ws = false) (hl : LineIs vs ws rw lab k) (hr : rst vs rw = some (m, vs')) : rdl vs acc (ws :: rest) = rdl vs' (acc ++ [pnOf vs ws]) rest := by
  obtain ⟨_, _, h3, h4, _⟩ := hl.yes m vs' hr
  rw [rdl, h, h3, h4]; rfl
theorem rop_word {vs : List Nam} {s : ByteArray} (h : opdB s = true) : (rop vs s).word = s := by
  unfold rop
  split
  · rfl
  · split
    · rfl
    · rename_i h1 h2
      unfold opdB at h
      simp_all
theorem rst_words {vs vs' : List Nam} {rw : List ByteArray} {m : RN} (h : rst vs rw = some (m, vs')) (ho : m.ops = 2) (hd : m.does = ⟨#[61]⟩) : ∃ w0 w1, rw = [w0, w1, m.a.word, m.sign, m.b.word] := by
  unfold rst at h
  split at h
  · split at h <;> cases h
    simp at ho
  · repeat' (split at h)
    all_goals (cases h)
    all_goals (simp at ho)
  · repeat' (split at h)
    all_goals (cases h)
    all_goals (simp at ho)
  · rename_i w0 w1 w2 w3 w4
    split at h
    · split at h
      · rename_i h1
        cases h
        simp only [Bool.and_eq_true] at h1
        exact ⟨w0, w1, by rw [rop_word h1.1.1, rop_word h1.1.2]⟩
      · cases h
    · cases h
  · rename_i w0 w1 w2 w3 w4 w5
    split at h
    · rename_i h0
      split at h
      · cases h
        simp only at hd
        rw [hd] at h0
        simp at h0
      · cases h
    · cases h
  · cases h
theorem relC_of {vs vs' : List Nam} {ws rw : List ByteArray} {lab : ByteArray} {k : Nat} {m : RN} {wa : Option Addr} {wl wc : Nat} (hl : LineIs vs ws rw lab k) (hr : rst vs rw = some (m, vs')) : RelC ⟨{ m with lab := lab }, wa, wl, wc⟩ (pnOf vs ws) ∧ (pnOf vs ws).ws = rw := by
  obtain ⟨h1, h2, _, _, h5⟩ := hl.yes m vs' hr
  refine ⟨⟨h1.symm, ?_, fun hk => ?_⟩, h2⟩
  rotate_left
  · have hk' : (lin vs ws).2.2.1.kind = 1 := hk
    have e1 : m.ops = 2 := by rw [h5.ops, hk']; rfl
    have e2 : m.does = ⟨#[61]⟩ := by rw [h5.does, hk']; rfl
    obtain ⟨w0, w1, e⟩ := rst_words hr e1 e2
    exact ⟨w0, w1, h2.trans e⟩
  have : ({ ({ m with lab := lab } : RN) with lab := emp } : RN) = m := by
    have := h5.lab
    cases m; simp at this ⊢; exact this.symm
  show RelN { ({ m with lab := lab } : RN) with lab := emp } _
  rw [this]
  exact h5

/-! ### what the loop keeps, when a node is added -/
theorem own_rf {W W' : World} {pb : Nat} {vb : Option Nat} {B e size n : Nat} {v : Value} {xs : List Value} (h : W.ownsRow B e size v n xs) (hf : RF pb vb W W') (h1 : v.ownBlock = none ∨ v.ownBlock ≠ some pb) (h2 : v.ownBlock = none ∨ v.ownBlock ≠ vb) : W'.ownsRow B e size v n xs := by
  have hlt := h.lt
  refine ⟨h.1, ?_⟩
  rcases h.2 with a | ⟨g, cap, cur, e1, c1, c2, c3⟩
  · exact Or.inl a
  · subst e1
    refine Or.inr ⟨g, cap, cur, rfl, c1, (hf.block g (hlt g rfl).2 ?_ ?_).trans c2, c3⟩
    · rcases h1 with h1 | h1
      · cases h1
      · intro e; exact h1 (by rw [e]; rfl)
    · rcases h2 with h2 | h2
      · cases h2
      · exact h2
theorem RReps.those {w w' : World} {cl : List RC} {pl : List PN} (h : RReps w cl pl) (hw : ∀ c ∈ cl, ∀ a, c.wa = some a → ∀ off ws, Ws w a.block off ws → Ws w' a.block off ws) : RReps w' cl pl := by
  refine ⟨h.len, fun j c p a b => ?_⟩
  have hr := h.each j c p a b
  obtain ⟨g, off, h1, h2⟩ := hr.ws
  exact ⟨hr.rel, ⟨g, off, h1, hw c (List.mem_of_getElem? a) _ h1 _ _ h2⟩, hr.wl⟩
theorem RReps.lt {w : World} {cl : List RC} {pl : List PN} (h : RReps w cl pl) : ∀ c ∈ cl, ∀ a, c.wa = some a → a.block < w.heap.size := by
  intro c hc a ha
  obtain ⟨j, hj⟩ := List.getElem?_of_mem hc
  have hjl := (List.getElem?_eq_some_iff.1 hj).1
  obtain ⟨p, hp⟩ : ∃ p, pl[j]? = some p := ⟨_, List.getElem?_eq_getElem (by have := h.len; omega)⟩
  obtain ⟨g, off, h1, h2⟩ := (h.each j c p hj hp).ws
  rw [h1] at ha; cases ha
  exact h2.lt
theorem ws_ne_own {W : World} {g off : Nat} {ws : List ByteArray} {B e size n : Nat} {v : Value} {xs : List Value} (h : Ws W g off ws) (ho : W.ownsRow B e size v n xs) (he : 9 ≠ e) : some g ≠ v.ownBlock := by
  intro hv
  obtain ⟨c1, f1, a⟩ := own_cells ho g hv.symm
  obtain ⟨cur, hc, _⟩ := h
  rw [hc] at a
  simp at a
  exact he a.2.1
theorem ws_ne_box {W : World} {g off pb : Nat} {ws : List ByteArray} {cs : Array Value} {e : Nat} {f : Nat × Nat} (h : Ws W g off ws) (hb : W.heap[pb]? = some (.cells cs e f)) (he : 9 ≠ e) : g ≠ pb := by
  rintro rfl
  obtain ⟨cur, hc, _⟩ := h
  rw [hc] at hb
  simp at hb
  exact he hb.2.1
/-- the statement's call -/
theorem PS.call {w W W' : World} {s : ByteArray} {k : Nat} {nv : Value} {vs vs' : List Nam} {vb vb' : Option Nat} {acc : List PN} {cl : List RC} (h : PS w s k nv vs vb acc cl W) (hP : Rp W' w.heap.size (w.heap.size + 1) nv (.slice none 0 0) vs' vb') (hf : RF w.heap.size vb W W') (hn : newer W vb vb') (hv : vs'.length ≤ 3 * (k + 1)) : PS w s (k + 1) nv vs' vb' acc cl W' := by
  obtain ⟨vv, hb, ho, hvb⟩ := h.rp.box
  have hpz := h.rp.lt
  refine ⟨hP, ?_, ?_, ?_, ?_, hv, by have := h.clen; omega⟩
  · exact own_rf h.row hf (own_lt_ne h.row (by omega)) (by rw [← hvb]; exact own_ne_ty h.row ho (by decide))
  · exact h.reps.those (fun c hc a ha off ws hW => hW.rf h.rp (h.far c hc a ha) hf)
  · exact fun c hc a ha => hn.ne (h.reps.lt c hc a ha) (h.far c hc a ha)
  · refine ⟨hf.os.trans h.low.os, hf.tape.trans h.low.tape, hf.output.trans h.low.output, Nat.le_trans h.low.size hf.size, fun q hq => ?_⟩
    have h1 := h.low.size
    refine (hf.block q (by omega) (by omega) ?_).trans (h.low.block q hq)
    intro e
    have := (h.rp.vlt q e.symm).1
    omega
/-- the node is added -/
theorem PS.add {w W W5 : World} {s : ByteArray} {k : Nat} {nv v5 : Value} {vs : List Nam} {vb : Option Nat} {acc : List PN} {cl : List RC} {c : RC} {p : PN} (h : PS w s k nv vs vb acc cl W) (hgr : W.grownBy W5 nv.ownBlock) (ho5 : W5.ownsRow (w.heap.size + 1) 111 13 v5 (cl ++ [c]).length (rrow (cl ++ [c]))) (hc : RRep W c p) (hfar : ∀ a, c.wa = some a → some a.block ≠ vb) (hl : cl.length < k) : PS w s k v5 vs vb (acc ++ [p]) (cl ++ [c]) (W5.setCell ⟨w.heap.size, 0, none⟩ v5) := by
  obtain ⟨vv, hb, ho, hvb⟩ := h.rp.box
  have hpz := h.rp.lt
  have hb5 : W5.heap[w.heap.size]? = some (.cells #[nv, vv, .slice none 0 0] 107 (0, 0)) := (hgr.block _ hpz (lt_ne (fun k hk => (h.row.lt k hk).1) (by omega))).trans hb
  have hset := grown_self W5 w.heap.size 0 v5
  have keep : ∀ g off ws, Ws W g off ws → Ws (W5.setCell ⟨w.heap.size, 0, none⟩ v5) g off ws := fun g off ws hW =>
    hW.of_block ((Below.heap_setCell _ _ _ _ (ws_ne_box hW hb (by decide))).trans (hgr.block g hW.lt (ws_ne_own hW h.row (by decide))))
  refine ⟨⟨⟨vv, ?_, ?_, hvb⟩, h.rp.nodup⟩, ?_, ?_, ?_, ?_, h.vlen, by simp; omega⟩
  · rw [heap_setCell_same _ _ _ _ _ _ hb5]; rfl
  · exact (ho.kept hgr (own_ne_ty ho h.row (by decide))).kept hset (own_lt_ne ho (by omega))
  · exact ho5.kept hset (own_lt_ne ho5 (by omega))
  · exact (h.reps.snoc hc).mono keep
  · intro c' hc' a ha
    rcases List.mem_append.1 hc' with h1 | h1
    · exact h.far c' h1 a ha
    · simp at h1; subst h1; exact hfar a ha
  · have h1 := h.low.size
    refine ⟨hgr.os.trans h.low.os, hgr.tape.trans h.low.tape, hgr.output.trans h.low.output, by have := hgr.size; simp [World.setCell]; omega, fun q hq => ?_⟩
    refine (Below.heap_setCell _ _ _ _ (by simp; omega)).trans ((hgr.block q (by omega) (lt_ne (fun k hk => (h.row.lt k hk).1) (by omega))).trans (h.low.block q hq))
theorem rnCells_one (wv : Value) (h : wv.oneCell' = true) (n : RN) : ∀ u ∈ (rnCells wv n).toList, u.oneCell' = true := by
  intro u hu
  simp only [rnCells, List.mem_cons, List.mem_nil_iff, or_false] at hu
  rcases hu with rfl | rfl | rfl | rfl | rfl | rfl | rfl | rfl | rfl | rfl | rfl | rfl | rfl
  · exact h
  all_goals rfl
/-- what an append of a node asks -/
theorem app_facts {w W : World} {s : ByteArray} {k : Nat} {nv : Value} {vs : List Nam} {vb : Option Nat} {acc : List PN} {cl : List RC} (wv : Value) (n : RN) (h1 : wv.oneCell' = true) (h : PS w s k nv vs vb acc cl W) :
    ((W.alloc (.cells (rnCells wv n) 111)).alloc (.cells (rnCells wv n) 111)).ownsRow (w.heap.size + 1) 111 13 nv cl.length (rrow cl) ∧
    (∀ (j : Nat) (u : Value), (rnCells wv n).toList[j]? = some u → ((W.alloc (.cells (rnCells wv n) 111)).alloc (.cells (rnCells wv n) 111)).cell? ((⟨W.heap.size + 1, 0, none⟩ : Addr).add j) = some u) ∧
    (∀ u ∈ (rnCells wv n).toList, u.oneCell' = true) ∧
    w.heap.size + 1 ≤ ((W.alloc (.cells (rnCells wv n) 111)).alloc (.cells (rnCells wv n) 111)).heap.size :=
  ⟨(h.row.alloc _).alloc _, news_alloc2 W _ _ _, rnCells_one wv h1 n, by have := h.rp.lt; simp; omega⟩
theorem PS.kept {w W W4 : World} {s : ByteArray} {k : Nat} {nv : Value} {vs : List Nam} {vb : Option Nat} {acc : List PN} {cl : List RC} {o1 o2 : Obj} (h : PS w s k nv vs vb acc cl W) (hgr : ((W.alloc o1).alloc o2).grownBy W4 nv.ownBlock) : ∃ vv, W4.heap[w.heap.size]? = some (.cells #[nv, vv, .slice none 0 0] 107 (0, 0)) := by
  obtain ⟨vv, hb, _, _⟩ := h.rp.box
  have hpz := h.rp.lt
  have hg := ((World.grownBy_alloc W o1 _).trans (World.grownBy_alloc _ o2 _)).trans hgr
  exact ⟨vv, (hg.block _ hpz (lt_ne (fun k hk => (h.row.lt k hk).1) (by omega))).trans hb⟩
/-- append to a row of one's own, as one step of a region that draws -/
theorem step_own {P : Program} {ops : Array Oper} {o : Oper} {a : Act} {w : World} {K : Act → World → Prop} {Q : Exit → Act → World → Prop} {E : Prop}
    (hg : o.guard = none) (s x : Operand) (t : TypeId) (hop : o.op = Op.call { callee := Callee.builtin Builtin.append, args := #[s, x], argTypes := #[t, t] })
    (base : Nat) (e : TypeId) (i : TypeInfo) (z : Value) (size bytes : Nat) (h1 : P.underlying t = some (.slice e)) (h2 : P.info? e = some i) (h3 : i.zero = some z) (h4 : i.size = size) (h5 : i.bytes = bytes) (h6 : z.cells.size = size) (h7 : 0 < size)
    (v : Value) (n : Nat) (olds : List Value) (hs : a.eval s = v) (hown : w.ownsRow base e size v n olds)
    (ad : Addr) (m c : Nat) (news : List Value) (hx : a.eval x = .slice (some ad) m c) (hn : news.length = m * size) (hc : ∀ j u, news[j]? = some u → w.cell? (ad.add j) = some u) (h1c : ∀ u ∈ news, u.oneCell' = true)
    (b1 : n + m ≤ maxLen) (b2 : (n + m) * bytes ≤ 140737488355328) (hB : base ≤ w.heap.size)
    (hK : ∀ v' w', w'.ownsRow base e size v' (n + m) (olds ++ news) → w.grownBy w' v.ownBlock → K (a.put o.dst v') w') :
    if Region.wanted o (yielded ops a.tmps) = true then Oper.wp P o a w K Q else E := by
  have hw : Region.wanted o (yielded ops a.tmps) = true := by simp [Region.wanted, hg]
  rw [if_pos hw]
  obtain ⟨v', w', hrun, r1, r2, _⟩ := run_append_own_at (P := P) (w := w) base t o.type e i z size bytes h1 h2 h3 h4 h5 h6 h7 v n olds hown ad m c news hn hc h1c b1 b2 hB
  obtain ⟨a0, c0, rfl⟩ := sl_of_own hown
  unfold Oper.wp
  simp [execOp, hop, resolve, invoke, builtin, hs, hx, hrun, Result.andThen]
  exact hK v' w' r1 r2
/-! ### the end: the edges -/
theorem rrow_of_own {w : World} {B : Nat} {v : Value} {cl : List RC} (h : w.ownsRow B 111 13 v cl.length (rrow cl)) (h0 : 0 < cl.length) : ∃ g cap, v = .slice (some ⟨g, 0, none⟩) cl.length cap ∧ B ≤ g ∧ Rrow w g cap cl := by
  rcases h.2 with ⟨_, e⟩ | ⟨g, cap, cur, hv, hb, hg, hc, _, hs, ht⟩
  · omega
  · exact ⟨g, cap, hv, hb, cur, hg, hs, ht, hc⟩
theorem RF.of_none {pb : Nat} {vb : Option Nat} {W W' : World} (h : RF pb none W W') : RF pb vb W W' := ⟨h.os, h.tape, h.output, h.size, fun k hk h1 _ => h.block k hk h1 (by simp)⟩
theorem parse_ok {w W W' : World} {s : ByteArray} {k g cp vc : Nat} {va : Option Addr} {xv : Value} {evs : List Value} {vs : List Nam} {vb : Option Nat} {acc : List PN} {cl : List RC} (h : PS w s k (.slice (some ⟨g, 0, none⟩) cl.length cp) vs vb acc cl W) (hg : w.heap.size + 1 ≤ g) (h0 : 0 < cl.length) (hr : rlk cl = true) (hL : LkS W w.heap.size g cp (.slice va vs.length vc) cl cl.length xv evs W') (hf : RF w.heap.size none W W') (hlow : Below w.heap.size w W') : RPAns w (Pr.ok acc vs) (.returned (.tuple #[.pointer (some ⟨w.heap.size, 0, none⟩), .int .i64 0])) W' := by
  have hrel := h.reps.rel
  have hlen := h.reps.len
  have hlk : linkOk (acc.map PN.nc) = true := (link_rlk hrel h0).trans hr
  obtain ⟨ps, hps⟩ : ∃ ps, plc 0 [] (acc.map PN.lab) = some ps := by
    unfold linkOk at hlk
    rw [nc_labs] at hlk
    cases e : plc 0 [] (acc.map PN.lab) with
    | none => rw [e] at hlk; simp at hlk
    | some ps => exact ⟨ps, rfl⟩
  have hsz := h.low.size
  refine ⟨hlow, w.heap.size, g, cp, va, vc, xv, cl, evs, ps, rfl, Nat.le_refl _, ?_, by omega, hL.row, ?_, hps, own_mono hL.next hsz, hL.len.trans hlen, ?_⟩
  · rw [hL.box, hlen]
  · exact h.reps.those (fun c hc a ha off ws hW => hW.rf h.rp (h.far c hc a ha) hf.of_none)
  · intro j ev p hj hp
    have hjl := (List.getElem?_eq_some_iff.1 hp).1
    have hc := List.getElem?_eq_getElem (l := cl) (i := j) (by omega)
    have he := hL.edges j ev _ hj hc
    rw [redg_eq hrel h0 hr hps j _ p hc hp] at he
    exact own_mono he hsz
theorem prs_prg {s : ByteArray} {acc : List PN} {vs : List Nam} (hs : s.size ≤ 3000) (h : rdl [] [] (lnW s) = some (acc, vs)) (hp : progOk acc vs = false) : prs s = Pr.prg := by
  unfold prs
  rw [if_neg (by omega), h]
  simp only [hp]
  rfl
theorem prs_okk {s : ByteArray} {acc : List PN} {vs : List Nam} (hs : s.size ≤ 3000) (h : rdl [] [] (lnW s) = some (acc, vs)) (hp : progOk acc vs = true) : prs s = Pr.ok acc vs := by
  unfold prs
  rw [if_neg (by omega), h]
  simp only [hp]
  rfl
end Go.Proofs.YtmipbiligijcpaaGreatDoor
