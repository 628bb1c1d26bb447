/- The book settles: what waited is as it was, and becomes its owner's. -/
import Derived.Test.YtmipbiligijcpaaBH
import Derived.Test.YtmipbiligijcpaaBG
namespace Go.Proofs.Ytmipbiligijcpaa
set_option linter.unusedVariables false
set_option linter.unusedSimpArgs false
open Go.RowKit Go.Proofs Go.Maps

/-- while the book takes what waited -/
structure SIn (w wi : World) (bb B Z k n1 n4 : Nat) (wn rn : Value) (es : List Ent) (l1 l4 l5 : Value) (s1 s4 s5 : List Value) : Prop where
  bk : BN wi bb B l1 l4 l5 wn rn s1 s4 s5
  rw : wi.ownsRow B 22 1 wn es.length (es.map Ent.wv)
  ne : ∀ j, wn.ownBlock = some j → some j ≠ l5.ownBlock ∧ j < Z
  tr : ∀ j e, k ≤ j → es[j]? = some e → NdS wi e.lo e.hi e.na e.nc e.cl
  c1 : ∀ v ∈ s1, ∀ b, v.ownBlock = some b → (∀ j e, k ≤ j → es[j]? = some e → b < e.lo) ∨ Z ≤ b
  c4 : ∀ v ∈ s4, ∀ b, v.ownBlock = some b → (∀ j e, k ≤ j → es[j]? = some e → b < e.lo) ∨ Z ≤ b
  c5 : ∀ v ∈ s5, ∀ b, v.ownBlock = some b → (∀ j e, k ≤ j → es[j]? = some e → b < e.lo) ∨ Z ≤ b
  e1 : s1.length = 4 * n1
  e4 : s4.length = 4 * n4
  e5 : s5.length = 4 * k
  q1 : n1 ≤ 120 * k
  q4 : n4 ≤ 60 * k
  below : Below B w wi
  z : Z ≤ wi.heap.size
theorem SIn.start {w wi : World} {bb B : Nat} {wn rn : Value} {es : List Ent} (h : BWn w bb B wn rn es) (hb : Below w.heap.size w wi) : SIn w wi bb B w.heap.size 0 0 0 wn rn es (.slice none 0 0) (.slice none 0 0) (.slice none 0 0) [] [] [] := by
  have h2 := h.below hb
  refine ⟨⟨h2.bx.box, World.ownsRow_nil _ _ _ _, World.ownsRow_nil _ _ _ _, World.ownsRow_nil _ _ _ _, (fun i v hv => by simp at hv), (fun i v hv => by simp at hv), (fun i v hv => by simp at hv), h2.base⟩, h2.bx.rw, fun j hj => ⟨by simp [Value.ownBlock], (h.bx.rw.lt j hj).2⟩, fun j e _ he => (h2.ok e (List.mem_of_getElem? he)).s, (fun v hv => by cases hv), (fun v hv => by cases hv), (fun v hv => by cases hv), rfl, rfl, rfl, by omega, by omega, hb.mono h.base, hb.size⟩
theorem ord_at {es : List Ent} (h : es.Pairwise (fun a b => a.hi ≤ b.lo)) {i j : Nat} {x y : Ent} (hi : es[i]? = some x) (hj : es[j]? = some y) (hij : i < j) : x.hi ≤ y.lo := by
  obtain ⟨h1, rfl⟩ := List.getElem?_eq_some_iff.1 hi
  obtain ⟨h2, rfl⟩ := List.getElem?_eq_some_iff.1 hj
  exact List.pairwise_iff_getElem.1 h i j h1 h2 hij
theorem SIn.next {w wi W : World} {bb B Z k n1 n4 : Nat} {wn rn : Value} {es : List Ent} {l1 l4 l5 : Value} {s1 s4 s5 : List Value} {e : Ent} (h : SIn w wi bb B Z k n1 n4 wn rn es l1 l4 l5 s1 s4 s5) (hord : es.Pairwise (fun a b => a.hi ≤ b.lo)) (he : es[k]? = some e) (hl : e.cl.length ≤ 60) (hP : NPost wi W bb B e.lo e.hi Z (n1 + 2 * e.cl.length) (n4 + e.cl.length) (k + 1) l5 wn rn) :
    ∃ (l1a' : Option Addr) (l1c' : Nat) (l4a' : Option Addr) (l4c' : Nat) (l5a' : Option Addr) (l5c' : Nat) (s1' s4' s5' : List Value), SIn w W bb B Z (k + 1) (n1 + 2 * e.cl.length) (n4 + e.cl.length) wn rn es (.slice l1a' s1'.length l1c') (.slice l4a' s4'.length l4c') (.slice l5a' s5'.length l5c') s1' s4' s5' := by
  obtain ⟨l1a', l1c', l4a', l4c', l5a', l5c', s1', s4', s5', a1, a4, a5, bk, v1, v4, v5, nf, kn, nw⟩ := hP.how
  have hcc : ∀ b, b < e.hi ∨ Z ≤ b → (∀ j e', k + 1 ≤ j → es[j]? = some e' → b < e'.lo) ∨ Z ≤ b := by
    intro b hb
    rcases hb with hb | hb
    · left
      intro j e' hj he'
      have := ord_at hord he he' (by omega)
      omega
    · exact Or.inr hb
  have hz := h.z
  have hzW := nf.below.size
  refine ⟨l1a', l1c', l4a', l4c', l5a', l5c', s1', s4', s5', bk, own_by h.rw (fun j cur hj hc => kn j cur hc (h.ne j hj).1), ?_, ?_, fun v hv b hb => hcc b (v1 v hv b hb), fun v hv b hb => hcc b (v4 v hv b hb), fun v hv b hb => hcc b (v5 v hv b hb), a1, a4, a5, by have := h.q1; omega, by have := h.q4; omega, h.below.trans nf.below, by omega⟩
  · intro j hj
    refine ⟨?_, (h.ne j hj).2⟩
    rcases nw with e2 | ⟨q, e2, hq⟩
    · rw [e2]; exact (h.ne j hj).1
    · rw [e2]
      intro e3
      cases e3
      have := (h.ne _ hj).2
      omega
  · intro j e' hj he'
    have ho := ord_at hord he he' (by omega)
    refine (h.tr j e' (by omega) he').by (fun b cur t hb1 hb2 hc ht => nf.keep b cur t hc ?_ ?_ ?_ ?_ (Or.inr (by omega)))
    all_goals rcases ht with e | e | e <;> (rw [e]; decide)
theorem BN.clear {W : World} {bb B : Nat} {l1 l4 l5 wt rt : Value} {s1 s4 s5 : List Value} (h : BN W bb B l1 l4 l5 wt rt s1 s4 s5) : BN ((((W.setCell ⟨bb, 5, none⟩ (.slice none 0 0)).setCell ⟨bb, 6, none⟩ (.slice none 0 0)).setCell ⟨bb, 7, none⟩ (.slice none 0 0)).setCell ⟨bb, 8, none⟩ (.slice none 0 0)) bb B l1 l4 l5 (.slice none 0 0) (.slice none 0 0) s1 s4 s5 := by
  have hk : ∀ k, k ≠ bb → ((((W.setCell ⟨bb, 5, none⟩ (.slice none 0 0)).setCell ⟨bb, 6, none⟩ (.slice none 0 0)).setCell ⟨bb, 7, none⟩ (.slice none 0 0)).setCell ⟨bb, 8, none⟩ (.slice none 0 0)).heap[k]? = W.heap[k]? := fun k hk =>
    (Below.heap_setCell _ _ _ _ hk).trans ((Below.heap_setCell _ _ _ _ hk).trans ((Below.heap_setCell _ _ _ _ hk).trans (Below.heap_setCell _ _ _ _ hk)))
  have hne : ∀ (k : Nat) (cur : Array Value) (t : TypeId), W.heap[k]? = some (.cells cur t (0, 0)) → t ≠ 34 → k ≠ bb := by
    intro k cur t hc ht e
    subst e
    rw [h.box] at hc
    simp at hc
    exact ht hc.2.symm
  refine ⟨?_, own_by h.r1 (fun k cur _ hc => hk k (hne k cur _ hc (by decide))), own_by h.r4 (fun k cur _ hc => hk k (hne k cur _ hc (by decide))), own_by h.r5 (fun k cur _ hc => hk k (hne k cur _ hc (by decide))), fun i v hv => (h.m1 i v hv).of_block (fun k hb => ?_), fun i v hv => (h.m4 i v hv).of_block (fun k hb => ?_), fun i v hv => (h.m5 i v hv).of_block (fun k hb => ?_), by have := h.base; simp [World.setCell]; omega⟩
  · rw [heap_setCell_same _ _ _ _ _ _ (heap_setCell_same _ _ _ _ _ _ (heap_setCell_same _ _ _ _ _ _ (heap_setCell_same _ _ _ _ _ _ h.box)))]
    rfl
  · obtain ⟨cur, hc⟩ := (h.m1 i v hv).ty k hb
    exact hk k (hne k cur _ hc (by decide))
  · obtain ⟨cur, hc⟩ := (h.m4 i v hv).ty k hb
    exact hk k (hne k cur _ hc (by decide))
  · obtain ⟨cur, hc⟩ := (h.m5 i v hv).ty k hb
    exact hk k (hne k cur _ hc (by decide))
theorem row_map {W : World} {B e n cap : Nat} {ao : Option Addr} {es : List Ent} {f : Ent → Value} (h : W.ownsRow B e 1 (.slice ao n cap) es.length (es.map f)) {i : Nat} {x : Ent} (hx : es[i]? = some x) : ∃ g, ao = some ⟨g, 0, none⟩ ∧ W.cell? ⟨g, i, none⟩ = some (f x) := by
  have h' : W.ownsRow B e 1 (.slice ao n cap) (es.map f).length (es.map f) := by rw [List.length_map]; exact h
  exact row_one h' (i := i) (by simp [hx])
set_option maxHeartbeats 4000000 in
set_option maxRecDepth 100000 in
theorem settle_any (bb B : Nat) (wa ra : Option Addr) (wk rk : Nat) (es : List Ent) (w : World) (hW : BWn w bb B (.slice wa es.length wk) (.slice ra es.length rk) es) (hn : es.length ≤ 3) :
    Calls Try.prog 8 #[.pointer (some ⟨bb, 0, none⟩)] w fun e W => e = .returned (.bool true) ∧ Below B w W ∧ ∃ (l1a : Option Addr) (l1c : Nat) (l4a : Option Addr) (l4c : Nat) (l5a : Option Addr) (l5c : Nat) (s1 s4 s5 : List Value), BN W bb B (.slice l1a s1.length l1c) (.slice l4a s4.length l4c) (.slice l5a s5.length l5c) (.slice none 0 0) (.slice none 0 0) s1 s4 s5 ∧ s1.length ≤ 50000 ∧ s4.length ≤ 50000 ∧ s5.length ≤ 50000 := by
  have HW : Hid (BWn w bb B (.slice wa es.length wk) (.slice ra es.length rk) es) := hW
  clear hW
  go_enter Try.func8, Try.ntmps8
  go_wp2_with fail
  go_loopw [3, 4] (fun ok i wi => ok = .bool true ∧ i = .int .i64 0 ∧ Hid (Below w.heap.size w wi)) (fun _ _ _ => 0)
  case atStart => exact ⟨rfl, rfl, Below.refl _ _⟩
  case round =>
    obtain ⟨rfl, rfl, HJ⟩ := hrel
    obtain ⟨y1, y2⟩ := box_cells (HW.out.below HJ.out).bx.box
    simp only [bookC] at y1
    go_wp2_with fail
    clear y1 y2
    go_loopw [3, 6] (fun ok i wr => ok = .bool true ∧ ∃ k : Nat, k ≤ es.length ∧ i = .int .i64 k ∧ Hid (Below w.heap.size w wr)) (fun _ i _ => es.length - (intOf i).toNat)
    case atStart => exact ⟨rfl, 0, Nat.zero_le _, rfl, HJ⟩
    case round =>
      obtain ⟨rfl, k, hk, rfl, HK⟩ := hrel
      have hwr := HW.out.below HK.out
      obtain ⟨x1, x2⟩ := box_cells hwr.bx.box
      simp only [bookC] at x1
      by_cases hlt : k < es.length
      · have hlti : (k : Int) < (es.length : Int) := by omega
        obtain ⟨e, he⟩ : ∃ e, es[k]? = some e := ⟨_, List.getElem?_eq_getElem hlt⟩
        have hok := hwr.ok e (List.mem_of_getElem? he)
        obtain ⟨g, rfl, g0⟩ := row_map hwr.bx.rw he
        obtain ⟨r, rfl, r0⟩ := row_map hwr.bx.rr he
        have g0' : wr.cell? ⟨g, k, none⟩ = some (.slice e.na e.cl.length e.nc) := g0
        have r0' : wr.cell? ⟨r, k, none⟩ = some (.slice e.da e.dl.length e.dc) := r0
        have HS : Hid (∀ W, Below wr.heap.size wr W → Calls Try.prog 15 #[.slice e.na e.cl.length e.nc, .slice e.da e.dl.length e.dc] W fun e w' => e = .returned (.bool true) ∧ Below W.heap.size W w') := by
          intro W hb
          have hk2 := hok.below hb
          have hsame := sameNodes_any e.na e.da e.nc e.dc (e.cl.map N5.n) W hk2.wat hk2.rat (fun n hn => by simp at hn; obtain ⟨x, hx, rfl⟩ := hn; exact hk2.i x hx) (by have h60 := hk2.s.len; simp only [List.length_map]; omega)
          simp only [List.length_map] at hsame
          rw [hk2.len]
          exact hsame
        have HC : Hid (wr.cell? ⟨bb, 7, none⟩ = some (.slice (some ⟨g, 0, none⟩) es.length wk) ∧ wr.cell? ⟨bb, 8, none⟩ = some (.slice (some ⟨r, 0, none⟩) es.length rk) ∧ wr.cell? ⟨g, k, none⟩ = some (.slice e.na e.cl.length e.nc) ∧ wr.cell? ⟨r, k, none⟩ = some (.slice e.da e.dl.length e.dc)) := ⟨by rw [x1]; rfl, by rw [x1]; rfl, g0', r0'⟩
        clear hwr hok he g0 r0
        go_wp2_with fail
        go_region_held3 (fun w' => w'.cell? ⟨bb, 7, none⟩ = some (.slice (some ⟨g, 0, none⟩) es.length wk) ∧ w'.cell? ⟨bb, 8, none⟩ = some (.slice (some ⟨r, 0, none⟩) es.length rk) ∧ w'.cell? ⟨g, k, none⟩ = some (.slice e.na e.cl.length e.nc) ∧ w'.cell? ⟨r, k, none⟩ = some (.slice e.da e.dl.length e.dc)) (go_keep) ((go_at_call 15; refine (HS.out wr.drew ((Below.refl wr.heap.size wr).drew)).mono ?_; rintro e0 W4 ⟨rfl, hb4⟩; have hb5 : Below wr.heap.size wr W4 := (Below.refl wr.heap.size wr).drew.trans hb4; have d1 := cell_stays HC.out.1 hb5; have d2 := cell_stays HC.out.2.1 hb5; have d3 := cell_stays HC.out.2.2.1 hb5; have d4 := cell_stays HC.out.2.2.2 hb5; have HB5 := (show Hid _ from hb5); clear hb4 hb5))
        go_wp2_with fail
        exact ⟨⟨rfl, k + 1, by omega, rfl, HK.out.trans (HB5.out.mono HK.out.size)⟩, by simp only [intOf]; omega⟩
      · have hlti : ¬ (k : Int) < (es.length : Int) := by omega
        clear hwr
        go_wp2_with fail
        clear x1 x2
        go_loopw [8] (fun i wi => i = .int .i64 0 ∧ Hid (Below w.heap.size w wi)) (fun _ _ => 0)
        case atStart => exact ⟨rfl, HK⟩
        case round =>
          obtain ⟨rfl, HZ⟩ := hrel
          obtain ⟨y1, y2⟩ := box_cells (HW.out.below HZ.out).bx.box
          simp only [bookC] at y1
          go_wp2_with fail
          clear y1 y2
          go_loopw [9] (fun i wi => ∃ k : Nat, k ≤ es.length ∧ i = .int .i64 k ∧ Hid (∃ (n1 n4 : Nat) (l1a : Option Addr) (l1c : Nat) (l4a : Option Addr) (l4c : Nat) (l5a : Option Addr) (l5c : Nat) (s1 s4 s5 : List Value), SIn w wi bb B w.heap.size k n1 n4 (.slice wa es.length wk) (.slice ra es.length rk) es (.slice l1a s1.length l1c) (.slice l4a s4.length l4c) (.slice l5a s5.length l5c) s1 s4 s5)) (fun i _ => es.length - (intOf i).toNat)
          case atStart => exact ⟨0, Nat.zero_le _, rfl, ⟨0, 0, none, 0, none, 0, none, 0, [], [], [], SIn.start HW.out HZ.out⟩⟩
          case round =>
            obtain ⟨k, hk, rfl, HS⟩ := hrel
            obtain ⟨n1, n4, l1a, l1c, l4a, l4c, l5a, l5c, s1, s4, s5, hS⟩ := HS.out
            obtain ⟨y1, y2⟩ := box_cells hS.bk.box
            simp only [bookC] at y1
            by_cases hlt : k < es.length
            · have hlti : (k : Int) < (es.length : Int) := by omega
              obtain ⟨e, he⟩ : ∃ e, es[k]? = some e := ⟨_, List.getElem?_eq_getElem hlt⟩
              obtain ⟨g, rfl, g0⟩ := row_map hS.rw he
              have g0' : wr.cell? ⟨g, k, none⟩ = some (.slice e.na e.cl.length e.nc) := g0
              have htop := HW.out.top e (List.mem_of_getElem? he)
              have hq1 := hS.q1
              have hq4 := hS.q4
              have hTk := hS.tr k e (Nat.le_refl _) he
              have hC := nodes_any bb B e.lo e.hi w.heap.size n1 n4 k e.na l1a l4a l5a e.nc l1c l4c l5c e.cl (.slice (some ⟨g, 0, none⟩) es.length wk) (.slice ra es.length rk) s1 s4 s5 wr hS.bk hTk hS.e1 hS.e4 hS.e5 (fun v hv b hb => Or.imp (fun f => f k e (Nat.le_refl _) he) id (hS.c1 v hv b hb)) (fun v hv b hb => Or.imp (fun f => f k e (Nat.le_refl _) he) id (hS.c4 v hv b hb)) (fun v hv b hb => Or.imp (fun f => f k e (Nat.le_refl _) he) id (hS.c5 v hv b hb)) HW.out.bx.low htop.1 htop.2.1 htop.2.2 hS.z (by omega) (by omega) (by omega)
              have HC := (show Hid _ from And.intro hC (And.intro hS (And.intro he hTk.len)))
              clear hC hS he HS g0 htop hq1 hq4 hTk
              go_wp2_with (go_at_call 20; refine Calls.mono HC.out.1 ?_; rintro e W2 ⟨rfl, hP⟩)
              have hnx := HC.out.2.1.next HW.out.ord HC.out.2.2.1 HC.out.2.2.2 hP
              exact ⟨⟨k + 1, by omega, rfl, ⟨_, _, hnx⟩⟩, by simp only [intOf]; omega⟩
            · obtain rfl : k = es.length := by omega
              have hlti : ¬ ((es.length : Int) < (es.length : Int)) := by omega
              have HQ : Hid (SIn w wr bb B w.heap.size es.length n1 n4 (.slice wa es.length wk) (.slice ra es.length rk) es (.slice l1a s1.length l1c) (.slice l4a s4.length l4c) (.slice l5a s5.length l5c) s1 s4 s5) := hS
              clear hS HS
              go_wp2_with fail
              go_ret
              refine ⟨rfl, ?_, l1a, l1c, l4a, l4c, l5a, l5c, s1, s4, s5, HQ.out.bk.clear, ?_, ?_, ?_⟩
              · have hl := HW.out.bx.low
                exact (((HQ.out.below.setCell hl _).setCell hl _).setCell hl _).setCell hl _
              · have := HQ.out.e1
                have := HQ.out.q1
                omega
              · have := HQ.out.e4
                have := HQ.out.q4
                omega
              · have := HQ.out.e5
                omega
end Go.Proofs.Ytmipbiligijcpaa
