/- The book: one Decode. -/
import Derived.Test.YtmipbiligijcpaaBF
import Derived.Test.YtmipbiligijcpaaF8
import Derived.Test.YtmipbiligijcpaaK5
import Derived.Test.YtmipbiligijcpaaY2
namespace Go.Proofs.Ytmipbiligijcpaa
set_option linter.unusedVariables false
set_option linter.unusedSimpArgs false
open Go.RowKit Go.Proofs Go.Maps

/-- what came out, and waits: the program's, the document's -/
structure Ent where
  na : Option Addr
  nc : Nat
  lo : Nat
  hi : Nat
  cl : List N5
  da : Option Addr
  dc : Nat
  dl : List N5
def Ent.wv (e : Ent) : Value := .slice e.na e.cl.length e.nc
def Ent.rv (e : Ent) : Value := .slice e.da e.dl.length e.dc
structure EntOk (W : World) (e : Ent) : Prop where
  s : NdS W e.lo e.hi e.na e.nc e.cl
  d : W.ownsRow 0 50 5 (.slice e.da e.dl.length e.dc) e.dl.length (nRow e.dl)
  o : ∀ x ∈ e.dl, NOwn W 0 x
  i : ∀ x ∈ e.cl, NdIn x.n
  m : e.dl.map N5.n = e.cl.map N5.n
theorem NdS.by {W W' : World} {lo hi : Nat} {na : Option Addr} {nc : Nat} {cl : List N5} (h : NdS W lo hi na nc cl) (hk : ∀ (k : Nat) (cur : Array Value) (t : TypeId), lo ≤ k → k < hi → W.heap[k]? = some (Obj.cells cur t (0, 0)) → (t = 3 ∨ t = 62 ∨ t = 50) → W'.heap[k]? = W.heap[k]?) : NdS W' lo hi na nc cl := by
  refine ⟨own_by h.row (fun k cur e c => hk k cur _ (h.row.lt k e).1 (h.rhi k e) c (Or.inr (Or.inr rfl))), fun x hx => ⟨?_, ?_, ?_, (h.ok x hx).ap⟩, h.ap, h.rhi, h.bhi, h.sz, h.len⟩
  · exact own_by (h.ok x hx).f (fun k cur e c => hk k cur _ ((h.ok x hx).f.lt k e).1 (h.bhi x hx k (mem_f e)) c (Or.inl rfl))
  · exact own_by (h.ok x hx).r (fun k cur e c => hk k cur _ ((h.ok x hx).r.lt k e).1 (h.bhi x hx k (mem_r e)) c (Or.inl rfl))
  · exact own_by (h.ok x hx).v (fun k cur e c => hk k cur _ ((h.ok x hx).v.lt k e).1 (h.bhi x hx k (mem_v e)) c (Or.inr (Or.inl rfl)))
theorem NOwn.by {W W' : World} {B : Nat} {x : N5} (h : NOwn W B x) (hk : ∀ (k : Nat) (cur : Array Value) (t : TypeId), W.heap[k]? = some (Obj.cells cur t (0, 0)) → (t = 3 ∨ t = 62 ∨ t = 50) → W'.heap[k]? = W.heap[k]?) : NOwn W' B x :=
  ⟨own_by h.f (fun k cur _ c => hk k cur _ c (Or.inl rfl)), own_by h.r (fun k cur _ c => hk k cur _ c (Or.inl rfl)), own_by h.v (fun k cur _ c => hk k cur _ c (Or.inr (Or.inl rfl))), h.fn, h.rn, h.vn⟩
theorem EntOk.by {W W' : World} {e : Ent} (h : EntOk W e) (hk : ∀ (k : Nat) (cur : Array Value) (t : TypeId), W.heap[k]? = some (Obj.cells cur t (0, 0)) → (t = 3 ∨ t = 62 ∨ t = 50) → W'.heap[k]? = W.heap[k]?) : EntOk W' e :=
  ⟨h.s.by (fun k cur t _ _ c ht => hk k cur t c ht), own_by h.d (fun k cur _ c => hk k cur _ c (Or.inr (Or.inr rfl))), fun x hx => (h.o x hx).by hk, h.i, h.m⟩
theorem EntOk.below {W W' : World} {e : Ent} (h : EntOk W e) (hb : Below W.heap.size W W') : EntOk W' e := h.by (fun k cur t c _ => hb.block k (Array.getElem?_eq_some_iff.1 c).1)
theorem EntOk.wat {W : World} {e : Ent} (h : EntOk W e) : NodesAt W e.na (e.cl.map N5.n) := nodes_own h.s.row (fun x hx => (h.s.ok x hx).own)
theorem EntOk.rat {W : World} {e : Ent} (h : EntOk W e) : NodesAt W e.da (e.cl.map N5.n) := by rw [← h.m]; exact nodes_own h.d h.o
theorem EntOk.len {W : World} {e : Ent} (h : EntOk W e) : e.dl.length = e.cl.length := by have := congrArg List.length h.m; simpa using this
/-- the book's two rows of what waits -/
structure BX (W : World) (bb B : Nat) (wn rn : Value) (nw nr : Nat) (xs ys : List Value) : Prop where
  box : W.heap[bb]? = some (.cells (bookC (.slice none 0 0) (.slice none 0 0) (.slice none 0 0) wn rn) 34 (0, 0))
  rw : W.ownsRow B 22 1 wn nw xs
  rr : W.ownsRow B 22 1 rn nr ys
  ap : wn.ownBlock = none ∨ wn.ownBlock ≠ rn.ownBlock
  low : B ≤ bb
theorem BX.lt {W : World} {bb B : Nat} {wt rt : Value} {nw nr : Nat} {xs ys : List Value} (h : BX W bb B wt rt nw nr xs ys) : bb < W.heap.size := (Array.getElem?_eq_some_iff.1 h.box).1
theorem BX.below {W W' : World} {bb B : Nat} {wt rt : Value} {nw nr : Nat} {xs ys : List Value} (h : BX W bb B wt rt nw nr xs ys) (hb : Below W.heap.size W W') : BX W' bb B wt rt nw nr xs ys :=
  ⟨(hb.block _ h.lt).trans h.box, own_below h.rw hb, own_below h.rr hb, h.ap, h.low⟩
theorem BX.pushW {W W' W4 : World} {bb B : Nat} {wt rt v4 : Value} {nw nr : Nat} {xs ys cs : List Value} (h : BX W bb B wt rt nw nr xs ys) (hb : Below W.heap.size W W') (hg : W'.grownBy W4 wt.ownBlock) (ho : W4.ownsRow B 22 1 v4 (nw + 1) (xs ++ cs)) (hn : v4.ownBlock = wt.ownBlock ∨ v4.ownBlock = some W'.heap.size) : BX (W4.setCell ⟨bb, 7, none⟩ v4) bb B v4 rt (nw + 1) nr (xs ++ cs) ys ∧ Fr (fun k => k ≠ bb ∧ some k ≠ wt.ownBlock) W (W4.setCell ⟨bb, 7, none⟩ v4) := by
  have h2 := h.below hb
  have hbw := own_ty h2.rw h2.box (by decide)
  have hb4 : W4.heap[bb]? = some (.cells (bookC (.slice none 0 0) (.slice none 0 0) (.slice none 0 0) wt rt) 34 (0, 0)) := (hg.block bb h2.lt hbw).trans h2.box
  have hset := grown_self W4 bb 7 v4
  have hrt : rt.ownBlock = none ∨ rt.ownBlock ≠ wt.ownBlock := by
    rcases h.ap with e | e
    · rw [e]
      exact Classical.em _
    · exact Or.inr (fun e2 => e e2.symm)
  have hr4 := h2.rr.kept hg hrt
  refine ⟨⟨?_, ho.kept hset (Or.inr (fun e => own_ty ho hb4 (by decide) e.symm)), hr4.kept hset (Or.inr (fun e => own_ty hr4 hb4 (by decide) e.symm)), ?_, h.low⟩, ?_⟩
  · rw [heap_setCell_same _ _ _ _ _ _ hb4]; rfl
  · rcases hn with e | e
    · rw [e]; exact h.ap
    · right
      rw [e]
      intro e2
      have := (h2.rr.lt _ e2.symm).2
      omega
  · refine ⟨hg.os.trans hb.os, hg.tape.trans hb.tape, hg.output.trans hb.output, by have := hg.size; have := hb.size; simp [World.setCell]; omega, fun k hk hp => ?_⟩
    exact (Below.heap_setCell _ _ _ _ hp.1).trans ((hg.block k (by have := hb.size; omega) hp.2).trans (hb.block k hk))
theorem BX.pushR {W W' W4 : World} {bb B : Nat} {wt rt v4 : Value} {nw nr : Nat} {xs ys cs : List Value} (h : BX W bb B wt rt nw nr xs ys) (hb : Below W.heap.size W W') (hg : W'.grownBy W4 rt.ownBlock) (ho : W4.ownsRow B 22 1 v4 (nr + 1) (ys ++ cs)) (hn : v4.ownBlock = rt.ownBlock ∨ v4.ownBlock = some W'.heap.size) : BX (W4.setCell ⟨bb, 8, none⟩ v4) bb B wt v4 nw (nr + 1) xs (ys ++ cs) ∧ Fr (fun k => k ≠ bb ∧ some k ≠ rt.ownBlock) W (W4.setCell ⟨bb, 8, none⟩ v4) := by
  have h2 := h.below hb
  have hbw := own_ty h2.rr h2.box (by decide)
  have hb4 : W4.heap[bb]? = some (.cells (bookC (.slice none 0 0) (.slice none 0 0) (.slice none 0 0) wt rt) 34 (0, 0)) := (hg.block bb h2.lt hbw).trans h2.box
  have hset := grown_self W4 bb 8 v4
  have hr4 := h2.rw.kept hg h.ap
  refine ⟨⟨?_, hr4.kept hset (Or.inr (fun e => own_ty hr4 hb4 (by decide) e.symm)), ho.kept hset (Or.inr (fun e => own_ty ho hb4 (by decide) e.symm)), ?_, h.low⟩, ?_⟩
  · rw [heap_setCell_same _ _ _ _ _ _ hb4]; rfl
  · rcases hn with e | e
    · rw [e]; exact h.ap
    · right
      rw [e]
      intro e2
      have := (h2.rw.lt _ e2).2
      omega
  · refine ⟨hg.os.trans hb.os, hg.tape.trans hb.tape, hg.output.trans hb.output, by have := hg.size; have := hb.size; simp [World.setCell]; omega, fun k hk hp => ?_⟩
    exact (Below.heap_setCell _ _ _ _ hp.1).trans ((hg.block k (by have := hb.size; omega) hp.2).trans (hb.block k hk))
theorem BX.keep {W W' : World} {bb B : Nat} {wt rt : Value} {nw nr : Nat} {xs ys : List Value} (h : BX W bb B wt rt nw nr xs ys) (hf : Fr (fun k => k ≠ bb ∧ some k ≠ wt.ownBlock ∧ some k ≠ rt.ownBlock) W W') : ∀ (k : Nat) (cur : Array Value) (t : TypeId), W.heap[k]? = some (Obj.cells cur t (0, 0)) → (t = 3 ∨ t = 62 ∨ t = 50) → W'.heap[k]? = W.heap[k]? := by
  intro k cur t hc ht
  refine hf.block k (Array.getElem?_eq_some_iff.1 hc).1 ⟨?_, own_ty h.rw hc (by rcases ht with e | e | e <;> (rw [e]; decide)), own_ty h.rr hc (by rcases ht with e | e | e <;> (rw [e]; decide))⟩
  intro e
  subst e
  rw [h.box] at hc
  simp at hc
  rcases ht with e | e | e <;> (rw [e] at hc; exact absurd hc.2 (by decide))
structure BWn (W : World) (bb B : Nat) (wn rn : Value) (es : List Ent) : Prop where
  bx : BX W bb B wn rn es.length es.length (es.map Ent.wv) (es.map Ent.rv)
  ok : ∀ e ∈ es, EntOk W e
  ord : es.Pairwise (fun a b => a.hi ≤ b.lo)
  top : ∀ e ∈ es, B ≤ e.lo ∧ e.lo ≤ e.hi ∧ e.hi ≤ W.heap.size
  base : B ≤ W.heap.size
theorem BWn.below {W W' : World} {bb B : Nat} {wn rn : Value} {es : List Ent} (h : BWn W bb B wn rn es) (hb : Below W.heap.size W W') : BWn W' bb B wn rn es :=
  ⟨h.bx.below hb, fun e he => (h.ok e he).below hb, h.ord, fun e he => ⟨(h.top e he).1, (h.top e he).2.1, Nat.le_trans (h.top e he).2.2 hb.size⟩, Nat.le_trans h.base hb.size⟩
theorem node_small {p g : Int} {n : Nd} (hok : okNode p g n = true) (hl : (nodeB p g n).length ≤ 60000) : n.facts.length ≤ 70000 ∧ n.ranks.length ≤ 70000 ∧ n.vals.length ≤ 70000 := by
  unfold okNode at hok
  unfold nodeB at hl
  by_cases hp : p ≤ 4
  · rw [if_pos hp] at hok hl
    have h1 := setB_ge n
    simp only [okSet, Bool.and_eq_true, decide_eq_true_eq, List.isEmpty_iff] at hok
    obtain ⟨⟨⟨⟨_, _⟩, hv⟩, _⟩, hr⟩ := hok
    rw [hv]
    unfold okRanks at hr
    by_cases hg : g = 1
    · rw [if_pos hg] at hr
      simp only [Bool.and_eq_true, decide_eq_true_eq] at hr
      refine ⟨by omega, by omega, by simp⟩
    · rw [if_neg hg] at hr
      simp only [List.isEmpty_iff] at hr
      rw [hr]
      refine ⟨by omega, by simp, by simp⟩
  · rw [if_neg hp] at hok
    by_cases hre : n.reached = true
    · rw [if_pos hre] at hok
      simp only [okEnv, Bool.and_eq_true, decide_eq_true_eq, List.isEmpty_iff] at hok
      obtain ⟨⟨⟨⟨⟨h1, h2⟩, h3⟩, _⟩, _⟩, _⟩ := hok
      rw [h1, h2]
      exact ⟨by simp, by simp, by omega⟩
    · rw [if_neg hre] at hok
      simp only [okBare, Bool.and_eq_true, decide_eq_true_eq, List.isEmpty_iff] at hok
      obtain ⟨⟨⟨⟨_, _⟩, h1⟩, h2⟩, h3⟩ := hok
      rw [h1, h2, h3]
      simp
theorem dec_small {s : List UInt8} {c : Ct} (h : dec s = some c) : c.nodes.length ≤ 60 ∧ ∀ n ∈ c.nodes, NdIn n ∧ n.facts.length ≤ 70000 ∧ n.ranks.length ≤ 70000 ∧ n.vals.length ≤ 70000 := by
  obtain ⟨h1, h2, h3, h4⟩ := dec_sound h
  obtain ⟨k1, k2, k3⟩ := okC_parts h1
  refine ⟨k2, fun n hn => ⟨h4.nodes n hn, node_small (k3 n hn) ?_⟩⟩
  have := flat_one (nodeB c.problem c.grade) c.nodes n hn
  rw [← h2] at h3
  simp only [encB, List.length_append] at h3
  omega
theorem tr_cells {W : World} {b : Nat} {x y z : Value} {t : TypeId} (h : W.heap[b]? = some (.cells #[x, y, z] t (0, 0))) : W.cell? ⟨b, 0, none⟩ = some x ∧ W.cell? ⟨b, 1, none⟩ = some y ∧ W.cell? ⟨b, 2, none⟩ = some z := by
  refine ⟨?_, ?_, ?_⟩ <;> (rw [(box_cells h).1]; rfl)
theorem BX.bookW {W W' W4 : World} {bb B : Nat} {wt rt : Value} {nw nr : Nat} {xs ys : List Value} (h : BX W bb B wt rt nw nr xs ys) (hb : Below W.heap.size W W') (hg : W'.grownBy W4 wt.ownBlock) : (W4.cell? ⟨bb, 7, none⟩ = some wt) ∧ (∀ o, W4.frozen? ⟨bb, o, none⟩ = false) := by
  have h2 := h.below hb
  obtain ⟨x, y⟩ := box_cells ((hg.block bb h2.lt (own_ty h2.rw h2.box (by decide))).trans h2.box)
  exact ⟨by rw [x]; rfl, y⟩
theorem BX.bookR {W W' W4 : World} {bb B : Nat} {wt rt : Value} {nw nr : Nat} {xs ys : List Value} (h : BX W bb B wt rt nw nr xs ys) (hb : Below W.heap.size W W') (hg : W'.grownBy W4 rt.ownBlock) : (W4.cell? ⟨bb, 8, none⟩ = some rt) ∧ (∀ o, W4.frozen? ⟨bb, o, none⟩ = false) := by
  have h2 := h.below hb
  obtain ⟨x, y⟩ := box_cells ((hg.block bb h2.lt (own_ty h2.rr h2.box (by decide))).trans h2.box)
  exact ⟨by rw [x]; rfl, y⟩
theorem far1_heap {w : World} {k : Nat} (hk : k < w.heap.size) (o : Obj) : ((w.alloc o).drew).heap[k]? = w.heap[k]? := Below.heap_alloc w o k hk
theorem far1 {w : World} {k : Nat} (hk : k < w.heap.size) : ∀ (o : Obj) (j : Nat), ((w.alloc o).drew).cell? ⟨k, j, none⟩ = w.cell? ⟨k, j, none⟩ := fun o _ => cell_block (far1_heap hk o)
theorem far1_fz {w : World} {k : Nat} (hk : k < w.heap.size) : ∀ (o : Obj) (j : Nat), ((w.alloc o).drew).frozen? ⟨k, j, none⟩ = w.frozen? ⟨k, j, none⟩ := fun o j => by simp only [World.frozen?, far1_heap hk o]
theorem BWn.push {W : World} {bb B : Nat} {wt rt : Value} {es : List Ent} {e : Ent} (h : BX W bb B wt rt (es.length + 1) (es.length + 1) (es.map Ent.wv ++ [e.wv]) (es.map Ent.rv ++ [e.rv])) (hok : ∀ e' ∈ es ++ [e], EntOk W e') (hord : es.Pairwise (fun a b => a.hi ≤ b.lo)) (ht : ∀ e' ∈ es, e'.hi ≤ e.lo) (htop : ∀ e' ∈ es ++ [e], B ≤ e'.lo ∧ e'.lo ≤ e'.hi ∧ e'.hi ≤ W.heap.size) : BWn W bb B wt rt (es ++ [e]) := by
  have hl : (es ++ [e]).length = es.length + 1 := by simp
  refine ⟨?_, hok, ?_, htop, ?_⟩
  · rw [hl, List.map_append, List.map_append]; exact h
  · rw [List.pairwise_append]
    exact ⟨hord, List.pairwise_singleton _ _, fun a ha b hb => by simp at hb; subst hb; exact ht a ha⟩
  · have := h.low
    have := h.lt
    omega
set_option maxHeartbeats 4000000 in
set_option maxRecDepth 100000 in
theorem decoded_any (bb B : Nat) (wa ra : Option Addr) (wk rk : Nat) (es : List Ent) (s : ByteArray) (w : World) (h : BWn w bb B (.slice wa es.length wk) (.slice ra es.length rk) es) (hn : es.length ≤ 10) :
    Calls Try.prog 7 #[.pointer (some ⟨bb, 0, none⟩), .string s] w fun e W => e = .returned (.bool true) ∧ Below B w W ∧ ∃ wa' wk' ra' rk' es', es'.length = es.length + 1 ∧ BWn W bb B (.slice wa' es'.length wk') (.slice ra' es'.length rk') es' := by
  have HW : Hid (BWn w bb B (.slice wa es.length wk) (.slice ra es.length rk) es) := h
  clear h
  obtain ⟨i2, hi2, hz0, hz1, hz2⟩ := info_parts infoNs
  have HI2 := (show Hid _ from And.intro hi2 (And.intro hz0 (And.intro hz1 hz2)))
  clear hi2 hz0 hz1 hz2
  go_enter Try.func7, Try.ntmps7
  go_wp2_with fail
  refine (wDecode_any s w).mono ?_
  rintro e W1 ⟨h1, b1⟩
  obtain ⟨c, cl, na, nc, er, rfl, hs1, hdc⟩ : ∃ (c : Ct) (cl : List N5) (na : Option Addr) (nc : Nat) (er : Int), e = .returned (.tuple #[.agg #[.int .i64 c.problem, .int .i64 c.grade, .slice na cl.length nc], .int .i64 er]) ∧ (NdS W1 w.heap.size W1.heap.size na nc cl ∧ (∀ x ∈ cl, NdIn x.n) ∧ c.nodes = cl.map N5.n) ∧ ((dec s.data.toList = some c ∧ er = 0) ∨ (dec s.data.toList = none ∧ er = 5 ∧ c = ⟨0, 0, []⟩)) := by
    rcases h1 with ⟨c, cl, la, lc, e1, e2, e3, e4, e5, e6⟩ | ⟨e1, e3⟩
    · have hl : c.nodes.length = cl.length := by rw [e2]; simp
      rw [hl] at e3 e4
      obtain ⟨d1, d2⟩ := dec_small e1
      have hd2 : ∀ x ∈ cl, NdIn x.n ∧ x.n.facts.length ≤ 70000 ∧ x.n.ranks.length ≤ 70000 ∧ x.n.vals.length ≤ 70000 := fun x hx => d2 x.n (by rw [e2]; exact List.mem_map_of_mem hx)
      exact ⟨c, cl, la, lc, 0, e3, ⟨⟨e4, e5, e6, fun k hk => (e4.lt k hk).2, fun x hx k hk => ((e5 x hx).blks k hk).2, fun x hx => (hd2 x hx).2, by omega⟩, fun x hx => (hd2 x hx).1, e2⟩, Or.inl ⟨e1, rfl⟩⟩
    · exact ⟨⟨0, 0, []⟩, [], none, 0, 5, e3, ⟨⟨World.ownsRow_nil _ _ _ _, (fun x hx => by cases hx), List.Pairwise.nil, (fun k hk => by cases hk), (fun x hx => by cases hx), (fun x hx => by cases hx), by simp⟩, (fun x hx => by cases hx), rfl⟩, Or.inr ⟨e1, rfl, rfl⟩⟩
  have H1 : Hid ((NdS W1 w.heap.size W1.heap.size na nc cl ∧ (∀ x ∈ cl, NdIn x.n) ∧ c.nodes = cl.map N5.n) ∧ Below w.heap.size w W1) := ⟨hs1, b1⟩
  have HD : Hid ((dec s.data.toList = some c ∧ er = 0) ∨ (dec s.data.toList = none ∧ er = 5 ∧ c = ⟨0, 0, []⟩)) := hdc
  clear h1 b1 hs1 hdc
  go_wp2_with fail
  obtain ⟨V1, hV1⟩ : ∃ V, V = W1.alloc (.cells #[.int .i64 c.problem, .int .i64 c.grade, .slice na cl.length nc] 24) := ⟨_, rfl⟩
  rw [← hV1]
  have bV1 : Below W1.heap.size W1 V1 := by rw [hV1]; exact below1 _ _
  have kc : V1.heap[W1.heap.size]? = some (.cells #[.int .i64 c.problem, .int .i64 c.grade, .slice na cl.length nc] 24 (0, 0)) := by rw [hV1]; exact heap_alloc_new _ _
  refine (ddecode_any s V1).mono ?_
  rintro e W2 ⟨h2, b2⟩
  obtain ⟨dl, da, dc, rfl, ho, hno, hmm⟩ : ∃ (dl : List N5) (da : Option Addr) (dc : Nat), e = .returned (.tuple #[.agg #[.int .i64 c.problem, .int .i64 c.grade, .slice da dl.length dc], .int .i64 er]) ∧ W2.ownsRow 0 50 5 (.slice da dl.length dc) dl.length (nRow dl) ∧ (∀ x ∈ dl, NOwn W2 0 x) ∧ dl.map N5.n = cl.map N5.n := by
    rcases h2 with ⟨c', dl, la, lc, e1, e2, e3, e4, e5⟩ | ⟨e1, e3⟩
    · rcases HD.out with ⟨d1, rfl⟩ | ⟨d1, _⟩
      · rw [d1] at e1
        cases e1
        have hl : c.nodes.length = dl.length := by rw [e2]; simp
        rw [hl] at e3 e4
        exact ⟨dl, la, lc, e3, e4, e5, by rw [← e2, H1.out.1.2.2]⟩
      · rw [d1] at e1; cases e1
    · rcases HD.out with ⟨d1, _⟩ | ⟨_, rfl, rfl⟩
      · rw [d1] at e1; cases e1
      · refine ⟨[], none, 0, e3, World.ownsRow_nil _ _ _ _, (fun x hx => by cases hx), ?_⟩
        have := H1.out.1.2.2
        simp at this
        simp [this]
  have hlen : Hid (dl.length = cl.length) := by show _ = _; have := congrArg List.length hmm; simpa using this
  have bW2 : Below W1.heap.size W1 W2 := below_trans bV1 b2
  have kc2 := (b2.block _ (Array.getElem?_eq_some_iff.1 kc).1).trans kc
  have HE2 : Hid (EntOk W2 ⟨na, nc, w.heap.size, W1.heap.size, cl, da, dc, dl⟩) := ⟨H1.out.1.1.below bW2, ho, hno, H1.out.1.2.1, hmm⟩
  have H2 : Hid (Below W1.heap.size W1 W2 ∧ W2.heap[W1.heap.size]? = some (.cells #[.int .i64 c.problem, .int .i64 c.grade, .slice na cl.length nc] 24 (0, 0))) := ⟨bW2, kc2⟩
  have hz2 : W1.heap.size < W2.heap.size := (Array.getElem?_eq_some_iff.1 kc2).1
  clear h2 b2 hV1 bV1 kc ho hno hmm bW2 kc2
  go_upto_region 3 with (fail)
  obtain ⟨V2, hV2⟩ : ∃ V, V = W2.alloc (.cells #[.int .i64 c.problem, .int .i64 c.grade, .slice da dl.length dc] 24) := ⟨_, rfl⟩
  rw [← hV2]
  have bV2 : Below W2.heap.size W2 V2 := by rw [hV2]; exact below1 _ _
  have kd : V2.heap[W2.heap.size]? = some (.cells #[.int .i64 c.problem, .int .i64 c.grade, .slice da dl.length dc] 24 (0, 0)) := by rw [hV2]; exact heap_alloc_new _ _
  have kc := (bV2.block _ hz2).trans H2.out.2
  have HE3 : Hid (EntOk V2 ⟨na, nc, w.heap.size, W1.heap.size, cl, da, dc, dl⟩) := HE2.out.below bV2
  have H3 : Hid (V2.heap[W2.heap.size]? = some (.cells #[.int .i64 c.problem, .int .i64 c.grade, .slice da dl.length dc] 24 (0, 0)) ∧ V2.heap[W1.heap.size]? = some (.cells #[.int .i64 c.problem, .int .i64 c.grade, .slice na cl.length nc] 24 (0, 0)) ∧ Below w.heap.size w V2) := ⟨kd, kc, below_trans H1.out.2 (below_trans H2.out.1 bV2)⟩
  obtain ⟨c1, c2, c3⟩ := tr_cells kc
  obtain ⟨d1, d2, d3⟩ := tr_cells kd
  have hsame := sameNodes_any na da nc dc (cl.map N5.n) V2 HE3.out.wat HE3.out.rat (fun n hn => by simp at hn; obtain ⟨x, hx, rfl⟩ := hn; exact HE3.out.i x hx) (by have h60 : cl.length ≤ 60 := HE3.out.s.len; simp only [List.length_map]; omega)
  simp only [List.length_map] at hsame
  have hsame2 : Calls Try.prog 15 #[.slice na cl.length nc, .slice da dl.length dc] V2 fun e w' => e = .returned (.bool true) ∧ Below V2.heap.size V2 w' := by rw [hlen.out]; exact hsame
  have HS : Hid (Calls Try.prog 15 #[.slice na cl.length nc, .slice da dl.length dc] V2 fun e w' => e = .returned (.bool true) ∧ Below V2.heap.size V2 w') := hsame2
  clear hV2 bV2 kd kc hsame hsame2 HE2
  go_wp2_with fail
  refine Calls.mono HS.out ?_
  rintro e W3 ⟨rfl, b3⟩
  have hc3 := (b3.block _ (Array.getElem?_eq_some_iff.1 H3.out.2.1).1).trans H3.out.2.1
  have hd3 := (b3.block _ (Array.getElem?_eq_some_iff.1 H3.out.1).1).trans H3.out.1
  have hB3 := below_trans H3.out.2.2 b3
  have hBX := HW.out.bx.below hB3
  have H4 : Hid (BX W3 bb B (.slice wa es.length wk) (.slice ra es.length rk) es.length es.length (es.map Ent.wv) (es.map Ent.rv) ∧ EntOk W3 ⟨na, nc, w.heap.size, W1.heap.size, cl, da, dc, dl⟩ ∧ Below w.heap.size w W3 ∧ W3.heap[W1.heap.size]? = some (.cells #[.int .i64 c.problem, .int .i64 c.grade, .slice na cl.length nc] 24 (0, 0)) ∧ W3.heap[W2.heap.size]? = some (.cells #[.int .i64 c.problem, .int .i64 c.grade, .slice da dl.length dc] 24 (0, 0)) ∧ W2.heap.size ≤ W3.heap.size) := ⟨hBX, HE3.out.below b3, hB3, hc3, hd3, Nat.le_trans (Nat.le_of_lt (Array.getElem?_eq_some_iff.1 H3.out.1).1) b3.size⟩
  have hl3 := hBX.lt
  have hx3 := (Array.getElem?_eq_some_iff.1 hc3).1
  have hy3 := (Array.getElem?_eq_some_iff.1 hd3).1
  clear c1 c2 c3 d1 d2 d3 b3 hB3
  have e5 : W3.cell? ⟨bb, 7, none⟩ = some (.slice wa es.length wk) := by rw [(box_cells hBX.box).1]; rfl
  have f5 := (box_cells hBX.box).2
  obtain ⟨c1, c2, c3⟩ := tr_cells hc3
  have g1 := far1 hl3
  have g2 := far1_fz hl3
  have n1 : bb ≠ W3.heap.size := by omega
  have n2 : W3.heap.size ≠ bb := by omega
  have n3 : W1.heap.size ≠ W3.heap.size := by omega
  have n4 : W3.heap.size ≠ W1.heap.size := by omega
  have hl1 : es.length + 1 ≤ maxLen := by unfold maxLen; omega
  have hl2 : (es.length + 1) * 24 ≤ 140737488355328 := by omega
  clear hc3 hd3 hBX hx3 hy3
  go_upto_region 4 with (fail)
  go_cut [] from 10 (fun wx => ∃ wa' wk', Hid (BX wx bb B (.slice wa' (es.length + 1) wk') (.slice ra es.length rk) (es.length + 1) es.length (es.map Ent.wv ++ [.slice na cl.length nc]) (es.map Ent.rv) ∧ Fr (fun k => k ≠ bb ∧ some k ≠ (Value.slice wa es.length wk).ownBlock) W3 wx))
  case first =>
    go_region_law (refine step_own2 rfl (.tmp 29) (.tmp 32) 31 rfl B 22 i2 (.slice none 0 0) 1 24 Try.underlying31 HI2.out.1 HI2.out.2.1 HI2.out.2.2.1 HI2.out.2.2.2 rfl (by decide) (.slice wa es.length wk) es.length (es.map Ent.wv) (by simp [Act.eval, Act.put]) (by exact own_below H4.out.1.rw (by repeat (first | with_reducible exact Below.refl _ _ | with_reducible refine below_drewN ?_ _ | with_reducible refine Below.drew ?_ | refine Below.alloc ?_ (by first | (simp; done) | (simp; omega)) _))) ⟨W3.heap.size, 0, none⟩ 1 1 [(.slice na cl.length nc)] (by simp [Act.eval, Act.put]) rfl (by exact cell_one_at _ _ _ _ (by simp)) (by intro u hu; simp at hu; subst hu; rfl) hl1 hl2 (by have := H4.out.1.low; have := H4.out.1.lt; simp; omega) ?_; intro v4 W14 hown4 hgrow4 hnew4; obtain ⟨a4, c4, rfl⟩ := sl_of_own hown4; obtain ⟨y1, y2⟩ := H4.out.1.bookW (by repeat (first | with_reducible exact Below.refl _ _ | with_reducible refine below_drewN ?_ _ | with_reducible refine Below.drew ?_ | refine Below.alloc ?_ (by first | (simp; done) | (simp; omega)) _)) hgrow4)
    all_goals
      go_wp2_with fail
      go_meet
      case rel => exact ⟨a4, c4, H4.out.1.pushW (by repeat (first | with_reducible exact Below.refl _ _ | with_reducible refine below_drewN ?_ _ | with_reducible refine Below.drew ?_ | refine Below.alloc ?_ (by first | (simp; done) | (simp; omega)) _)) hgrow4 hown4 hnew4⟩
  case rest =>
    clear e5 f5 c1 c2 c3 g1 g2 n1 n2 n3 n4
    rename World => W5
    obtain ⟨wa', wk', HX⟩ := hcut
    have hd5 := (HX.out.2.block W2.heap.size (Array.getElem?_eq_some_iff.1 H4.out.2.2.2.2.1).1 ⟨fun e => by have := H4.out.1.box; rw [← e, H4.out.2.2.2.2.1] at this; simp at this, own_ty H4.out.1.rw H4.out.2.2.2.2.1 (by decide)⟩).trans H4.out.2.2.2.2.1
    have hc5 := (HX.out.2.block W1.heap.size (Array.getElem?_eq_some_iff.1 H4.out.2.2.2.1).1 ⟨fun e => by have := H4.out.1.box; rw [← e, H4.out.2.2.2.1] at this; simp at this, own_ty H4.out.1.rw H4.out.2.2.2.1 (by decide)⟩).trans H4.out.2.2.2.1
    have hl5 := HX.out.1.lt
    have hy5 := (Array.getElem?_eq_some_iff.1 hd5).1
    have H5 : Hid (W5.heap[W1.heap.size]? = some (.cells #[.int .i64 c.problem, .int .i64 c.grade, .slice na cl.length nc] 24 (0, 0)) ∧ W5.heap[W2.heap.size]? = some (.cells #[.int .i64 c.problem, .int .i64 c.grade, .slice da dl.length dc] 24 (0, 0))) := ⟨hc5, hd5⟩
    have e6 : W5.cell? ⟨bb, 8, none⟩ = some (.slice ra es.length rk) := by rw [(box_cells HX.out.1.box).1]; rfl
    have f6 := (box_cells HX.out.1.box).2
    obtain ⟨d1, d2, d3⟩ := tr_cells hd5
    have g1 := far1 hl5
    have g2 := far1_fz hl5
    have n1 : bb ≠ W5.heap.size := by omega
    have n2 : W5.heap.size ≠ bb := by omega
    have n3 : W2.heap.size ≠ W5.heap.size := by omega
    have n4 : W5.heap.size ≠ W2.heap.size := by omega
    clear hd5 hc5 hl5 hy5
    go_upto_region 5 with (fail)
    go_cut [] from 10 (fun wx => ∃ ra' rk', Hid (BX wx bb B (.slice wa' (es.length + 1) wk') (.slice ra' (es.length + 1) rk') (es.length + 1) (es.length + 1) (es.map Ent.wv ++ [.slice na cl.length nc]) (es.map Ent.rv ++ [.slice da dl.length dc]) ∧ Fr (fun k => k ≠ bb ∧ some k ≠ (Value.slice ra es.length rk).ownBlock) W5 wx))
    case first =>
      go_region_law (refine step_own2 rfl (.tmp 40) (.tmp 43) 31 rfl B 22 i2 (.slice none 0 0) 1 24 Try.underlying31 HI2.out.1 HI2.out.2.1 HI2.out.2.2.1 HI2.out.2.2.2 rfl (by decide) (.slice ra es.length rk) es.length (es.map Ent.rv) (by simp [Act.eval, Act.put]) (by exact own_below HX.out.1.rr (by repeat (first | with_reducible exact Below.refl _ _ | with_reducible refine below_drewN ?_ _ | with_reducible refine Below.drew ?_ | refine Below.alloc ?_ (by first | (simp; done) | (simp; omega)) _))) ⟨W5.heap.size, 0, none⟩ 1 1 [(.slice da dl.length dc)] (by simp [Act.eval, Act.put]) rfl (by exact cell_one_at _ _ _ _ (by simp)) (by intro u hu; simp at hu; subst hu; rfl) hl1 hl2 (by have := HX.out.1.low; have := HX.out.1.lt; simp; omega) ?_; intro v4 W14 hown4 hgrow4 hnew4; obtain ⟨a4, c4, rfl⟩ := sl_of_own hown4; obtain ⟨y1, y2⟩ := HX.out.1.bookR (by repeat (first | with_reducible exact Below.refl _ _ | with_reducible refine below_drewN ?_ _ | with_reducible refine Below.drew ?_ | refine Below.alloc ?_ (by first | (simp; done) | (simp; omega)) _)) hgrow4)
      all_goals
        go_wp2_with fail
        go_meet
        case rel => exact ⟨a4, c4, HX.out.1.pushR (by repeat (first | with_reducible exact Below.refl _ _ | with_reducible refine below_drewN ?_ _ | with_reducible refine Below.drew ?_ | refine Below.alloc ?_ (by first | (simp; done) | (simp; omega)) _)) hgrow4 hown4 hnew4⟩
    case rest =>
      clear e6 f6 d1 d2 d3 g1 g2 n1 n2 n3 n4
      rename World => W6
      obtain ⟨ra', rk', HZ⟩ := hcut
      have hfr := (HX.out.2.mono (Q := fun k => k ≠ bb ∧ some k ≠ (Value.slice wa es.length wk).ownBlock ∧ some k ≠ (Value.slice ra es.length rk).ownBlock) (fun _ _ h => ⟨h.1, h.2.1⟩)).trans HZ.out.2 (fun _ _ h => ⟨h.1, h.2.2⟩)
      have hd6 := (HZ.out.2.block W2.heap.size (Array.getElem?_eq_some_iff.1 H5.out.2).1 ⟨fun e => by have := HX.out.1.box; rw [← e, H5.out.2] at this; simp at this, own_ty HX.out.1.rr H5.out.2 (by decide)⟩).trans H5.out.2
      have hc6 := (HZ.out.2.block W1.heap.size (Array.getElem?_eq_some_iff.1 H5.out.1).1 ⟨fun e => by have := HX.out.1.box; rw [← e, H5.out.1] at this; simp at this, own_ty HX.out.1.rr H5.out.1 (by decide)⟩).trans H5.out.1
      have HF : Hid (Fr (fun k => k ≠ bb ∧ some k ≠ (Value.slice wa es.length wk).ownBlock ∧ some k ≠ (Value.slice ra es.length rk).ownBlock) W3 W6) := hfr
      obtain ⟨c1, c2, c3⟩ := tr_cells hc6
      obtain ⟨d1, d2, d3⟩ := tr_cells hd6
      clear hfr hd6 hc6
      have q1 : (c.problem == c.problem) = true := by simp
      have q2 : (c.grade == c.grade) = true := by simp
      have q3 : (er == er) = true := by simp
      go_wp2_with (go_at_call 16; refine Calls.mono (num_any er _) ?_; rintro e W17 ⟨rfl, rfl⟩)
      go_ret
      have hb := H4.out.2.2.1
      have hB0 := HW.out.base
      have hlow := H4.out.1.low
      have hb1 := HX.out.2.below (B := B) (Nat.le_trans hB0 hb.size) (fun k hk => ⟨by omega, fun e => by have := (H4.out.1.rw.lt _ e.symm).1; omega⟩)
      have hb2 := HZ.out.2.below (B := B) (Nat.le_trans (Nat.le_trans hB0 hb.size) HX.out.2.size) (fun k hk => ⟨by omega, fun e => by have := (HX.out.1.rr.lt _ e.symm).1; omega⟩)
      have hz3 := H4.out.2.2.2.2.2
      have hz9 := HF.out.size
      have hz0 := H1.out.2.size
      refine ⟨rfl, ((hb.mono hB0).trans hb1).trans hb2, wa', wk', ra', rk', es ++ [⟨na, nc, w.heap.size, W1.heap.size, cl, da, dc, dl⟩], by simp, ?_⟩
      rw [show (es ++ [(⟨na, nc, w.heap.size, W1.heap.size, cl, da, dc, dl⟩ : Ent)]).length = es.length + 1 by simp]
      refine BWn.push HZ.out.1 (fun e' he' => ?_) HW.out.ord (fun e' he' => (HW.out.top e' he').2.2) (fun e' he' => ?_)
      · refine EntOk.by ?_ (H4.out.1.keep HF.out)
        rcases List.mem_append.1 he' with h | h
        · exact (HW.out.ok e' h).below hb
        · simp only [List.mem_singleton] at h
          subst h
          exact H4.out.2.1
      · rcases List.mem_append.1 he' with h | h
        · have := HW.out.top e' h
          exact ⟨this.1, this.2.1, by omega⟩
        · simp only [List.mem_singleton] at h
          subst h
          exact ⟨hB0, hz0, by show W1.heap.size ≤ _; omega⟩
end Go.Proofs.Ytmipbiligijcpaa
