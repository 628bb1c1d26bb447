/- A part of the proof: contracts of functions of the program. -/
import Derived.Test.YtmipbiligijcpaaGreatDoorA41
import Derived.Test.YtmipbiligijcpaaGreatDoorA42
import Derived.Test.YtmipbiligijcpaaGreatDoorA37
import Derived.Laws.CopyOwn
namespace Go.Proofs.YtmipbiligijcpaaGreatDoor
set_option linter.unusedVariables false
set_option linter.unusedSimpArgs false
open Go.RowKit Go.Proofs Go.Maps

theorem steps_own {w : World} {B n sc : Nat} {sa : Option Addr} {stl : List Stp} (h2 : w.ownsRow B 113 2 (.slice sa n sc) stl.length (stCells stl)) (h4 : ∀ s ∈ stl, ∃ B', w.ownsRow B' 2 1 s.2.1 s.2.2.length (s.2.2.map (Value.int .i64))) : StepsAt w sa (stOf stl) := by
  intro j x hj
  have hjl : j < stl.length := by have := (List.getElem?_eq_some_iff.1 hj).1; simpa [stOf] using this
  rcases h2.2 with ⟨_, e⟩ | ⟨g, cap, cur, hv, hb, hg, hc, hm, hs, ht⟩
  · omega
  · cases hv
    obtain ⟨s, hs2⟩ : ∃ s, stl[j]? = some s := ⟨_, List.getElem?_eq_getElem hjl⟩
    have hx : x = (s.1, s.2.2) := by
      simp [stOf, hs2] at hj
      exact hj.symm
    subst hx
    obtain ⟨c1, c2⟩ := stCells_at stl j s hs2
    rw [← ht, List.getElem?_take, if_pos (by omega)] at c1 c2
    obtain ⟨B', h5⟩ := h4 s (List.mem_of_getElem? hs2)
    obtain ⟨va, vc, hva, _, hints⟩ := ints_of_own h5 rfl
    refine ⟨g, 0, va, vc, rfl, ?_, ?_, hints⟩
    · simp only [World.cell?, hg, Nat.zero_add]; simpa using c1
    · simp only [World.cell?, hg, Nat.zero_add]
      have : (cur.toList)[j * 2 + 1]? = some s.2.1 := c2
      rw [hva] at this
      simpa using this
theorem ints_row {w : World} {B n oc : Nat} {oa : Option Addr} {xs : List Int} (h : w.ownsRow B 2 1 (.slice oa n oc) xs.length (xs.map (Value.int .i64))) : IntsAt w oa xs := by
  obtain ⟨ao, cap, e, _, hi⟩ := ints_of_own h rfl
  cases e
  exact hi
/-- a trace that came out, and the document's beside it -/
structure Trc where
  en : Int
  oa : Option Addr
  sa : Option Addr
  ra : Option Addr
  rs : Option Addr
  oc : Nat
  sc : Nat
  rc : Nat
  rd : Nat
  outs : List Int
  stl : List Stp
  rstl : List Stp
  c : Nat
  hi : Nat
def Trc.wc (t : Trc) : List Value := [.int .i64 t.en, .slice t.oa t.outs.length t.oc, .slice t.sa t.stl.length t.sc]
def Trc.rcs (t : Trc) : List Value := [.int .i64 t.en, .slice t.ra t.outs.length t.rc, .slice t.rs t.rstl.length t.rd]
structure TOk (W : World) (B : Nat) (t : Trc) : Prop where
  tr : TrS W t.c t.hi (.slice t.oa t.outs.length t.oc) (.slice t.sa t.stl.length t.sc) t.outs t.stl
  low : B ≤ t.c
  top : t.hi ≤ W.heap.size
  ro : W.ownsRow B 2 1 (.slice t.ra t.outs.length t.rc) t.outs.length (t.outs.map (Value.int .i64))
  rr : W.ownsRow B 113 2 (.slice t.rs t.rstl.length t.rd) t.rstl.length (stCells t.rstl)
  re : ∀ s ∈ t.rstl, W.ownsRow B 2 1 s.2.1 s.2.2.length (s.2.2.map (Value.int .i64))
  same : stOf t.rstl = stOf t.stl
theorem TrS.by {w w' : World} {c hi : Nat} {ov sv : Value} {outs : List Int} {stl : List Stp} (h : TrS w c hi ov sv outs stl) (hk : ∀ k cur t, c ≤ k → k < hi → w.heap[k]? = some (.cells cur t (0, 0)) → t = 2 ∨ t = 113 → w'.heap[k]? = w.heap[k]?) : TrS w' c hi ov sv outs stl :=
  ⟨own_by h.o (fun k cur e hc => hk k cur _ (h.o.lt k e).1 (h.ohi k e) hc (Or.inl rfl)), own_by h.s (fun k cur e hc => hk k cur _ (h.s.lt k e).1 (h.shi k e) hc (Or.inr rfl)), fun s hs => by
    obtain ⟨a1, a2, q, a3, a4, a5⟩ := h.each s hs
    refine ⟨own_by a1 (fun k cur e hc => hk k cur _ (a1.lt k e).1 ?_ hc (Or.inl rfl)), a2, q, a3, a4, a5⟩
    rw [a3] at e
    cases e
    exact a4, h.nd, h.ohi, h.shi, h.ol, h.sl⟩
theorem TOk.by {w w' : World} {B : Nat} {t : Trc} (h : TOk w B t) (hz : w.heap.size ≤ w'.heap.size) (hk : ∀ (k : Nat) (cur : Array Value) (ty : TypeId), w.heap[k]? = some (.cells cur ty (0, 0)) → ty = 2 ∨ ty = 113 → w'.heap[k]? = w.heap[k]?) : TOk w' B t :=
  ⟨h.tr.by (fun k cur t _ _ hc ht => hk k cur t hc ht), h.low, Nat.le_trans h.top hz, own_by h.ro (fun k cur _ hc => hk k cur _ hc (Or.inl rfl)), own_by h.rr (fun k cur _ hc => hk k cur _ hc (Or.inr rfl)), fun s hs => own_by (h.re s hs) (fun k cur _ hc => hk k cur _ hc (Or.inl rfl)), h.same⟩
theorem TOk.below {w w' : World} {B : Nat} {t : Trc} (h : TOk w B t) (hb : Below w.heap.size w w') : TOk w' B t := h.by hb.size (fun k _ _ hc _ => hb.block k (Array.getElem?_eq_some_iff.1 hc).1)
/-- the book, while what came out waits -/
structure BW (W : World) (bb B : Nat) (wt rt : Value) (T : List Trc) : Prop where
  box : W.heap[bb]? = some (.cells (bookCells (.slice none 0 0) (.slice none 0 0) wt rt) 32 (0, 0))
  rw : W.ownsRow B 57 3 wt T.length (T.flatMap Trc.wc)
  rr : W.ownsRow B 57 3 rt T.length (T.flatMap Trc.rcs)
  ap : wt.ownBlock = none ∨ wt.ownBlock ≠ rt.ownBlock
  tr : ∀ t ∈ T, TOk W B t
  ord : T.Pairwise (fun a b => a.hi ≤ b.c)
  low : B ≤ bb
theorem BW.lt {W : World} {bb B : Nat} {wt rt : Value} {T : List Trc} (h : BW W bb B wt rt T) : bb < W.heap.size := (Array.getElem?_eq_some_iff.1 h.box).1
theorem BW.below {W W' : World} {bb B : Nat} {wt rt : Value} {T : List Trc} (h : BW W bb B wt rt T) (hb : Below W.heap.size W W') : BW W' bb B wt rt T :=
  ⟨(hb.block _ h.lt).trans h.box, own_of_below h.rw hb, own_of_below h.rr hb, h.ap, fun t ht => (h.tr t ht).below hb, h.ord, h.low⟩
theorem flat3_at (f : Trc → List Value) (hf : ∀ t, (f t).length = 3) : ∀ (T : List Trc) (i j : Nat) (t : Trc), T[i]? = some t → j < 3 → (T.flatMap f)[i * 3 + j]? = (f t)[j]?
  | [], i, j, t, h, _ => by simp at h
  | a :: T, 0, j, t, h, hj => by
    simp at h
    subst h
    rw [List.flatMap_cons, List.getElem?_append_left (by rw [hf]; omega)]
    congr 1
    omega
  | a :: T, i + 1, j, t, h, hj => by
    have := flat3_at f hf T i j t (by simpa using h) hj
    rw [List.flatMap_cons, List.getElem?_append_right (by rw [hf]; omega), hf, show (i + 1) * 3 + j - 3 = i * 3 + j by omega]
    exact this
/-- one trace of a row, as it is read -/
theorem row3 {W : World} {B n cap : Nat} {ao : Option Addr} {T : List Trc} {f : Trc → List Value} (hf : ∀ t, (f t).length = 3) (h : W.ownsRow B 57 3 (.slice ao n cap) T.length (T.flatMap f)) {i : Nat} {t : Trc} (ht : T[i]? = some t) : ∃ g, ao = some ⟨g, 0, none⟩ ∧ ∀ j u, (f t)[j]? = some u → W.cell? ⟨g, i * 3 + j, none⟩ = some u := by
  have hi := (List.getElem?_eq_some_iff.1 ht).1
  rcases h.2 with ⟨_, e⟩ | ⟨g, cap', cur, hv, hb, hg, hc, hm, hs, htk⟩
  · omega
  · cases hv
    refine ⟨g, rfl, fun j u hu => ?_⟩
    have hj : j < 3 := by have := (List.getElem?_eq_some_iff.1 hu).1; rw [hf] at this; exact this
    have h1 := h.cells (g := g) rfl (i * 3 + j) u (by rw [flat3_at f hf T i j t ht hj]; exact hu)
    rw [add00] at h1
    exact h1
/-- the book, at the settling: k traces are taken -/
structure SI (W0 W : World) (bb B Z k : Nat) (wt rt : Value) (T : List Trc) (l2 l3 : Value) (ls l3s : List Value) : Prop where
  bk : BK W bb B l2 l3 wt rt ls l3s
  rw : W.ownsRow B 57 3 wt T.length (T.flatMap Trc.wc)
  l4 : ∃ q, ls.length = 4 * q
  ll : ls.length ≤ 12004 * k
  l3l : l3s.length = 4 * k
  c2 : ∀ v ∈ ls, ∀ b, v.ownBlock = some b → (∀ j t, k ≤ j → T[j]? = some t → b < t.c) ∨ Z ≤ b
  c3 : ∀ v ∈ l3s, ∀ b, v.ownBlock = some b → (∀ j t, k ≤ j → T[j]? = some t → b < t.c) ∨ Z ≤ b
  tr : ∀ j t, k ≤ j → T[j]? = some t → TrS W t.c t.hi (.slice t.oa t.outs.length t.oc) (.slice t.sa t.stl.length t.sc) t.outs t.stl
  below : Below B W0 W
theorem SI.next {W0 W W' : World} {bb B Z k : Nat} {wt rt : Value} {T : List Trc} {l2 l3 : Value} {ls l3s : List Value} {t : Trc} (h : SI W0 W bb B Z k wt rt T l2 l3 ls l3s) (hord : T.Pairwise (fun a b => a.hi ≤ b.c)) (ht : T[k]? = some t) (hs : t.stl.length ≤ 3000) (hP : TPost bb B t.c t.hi Z wt rt ls l3s t.stl.length W W') : ∃ l2a l2c l3a l3c ls' l3s', SI W0 W' bb B Z (k + 1) wt rt T (.slice l2a ls'.length l2c) (.slice l3a l3s'.length l3c) ls' l3s' := by
  obtain ⟨l2a, l2c, l3a, l3c, ls', l3s', p1, p2, p3, p4, p5, p6⟩ := hP
  have ho : ∀ j t', k + 1 ≤ j → T[j]? = some t' → t.hi ≤ t'.c := by
    intro j t' hj ht'
    obtain ⟨a1, a2⟩ := List.getElem?_eq_some_iff.1 ht
    obtain ⟨b1, b2⟩ := List.getElem?_eq_some_iff.1 ht'
    have := List.pairwise_iff_getElem.1 hord k j a1 b1 (by omega)
    rw [a2, b2] at this
    exact this
  obtain ⟨q, hq⟩ := h.l4
  refine ⟨l2a, l2c, l3a, l3c, ls', l3s', p3, ?_, ⟨q + 1 + t.stl.length, by omega⟩, by have := h.ll; omega, by have := h.l3l; omega, ?_, ?_, ?_, h.below.trans p6.below⟩
  · exact own_by h.rw (fun b cur e hc => p6.keep b cur _ hc (by decide) (by decide) (by decide) (Or.inl ⟨by decide, by decide⟩))
  · intro v hv b hb
    rcases p4 v hv with a | a
    · rcases h.c2 v a b hb with c | c
      · exact Or.inl (fun j t' hj => c j t' (by omega))
      · exact Or.inr c
    · rcases a b hb with c | c
      · exact Or.inl (fun j t' hj ht' => by have := ho j t' hj ht'; omega)
      · exact Or.inr c
  · intro v hv b hb
    rcases p5 v hv with a | a
    · rcases h.c3 v a b hb with c | c
      · exact Or.inl (fun j t' hj => c j t' (by omega))
      · exact Or.inr c
    · rcases a b hb with c | c
      · exact Or.inl (fun j t' hj ht' => by have := ho j t' hj ht'; omega)
      · exact Or.inr c
  · intro j t' hj ht'
    refine (h.tr j t' (by omega) ht').by (fun b cur u h1 h2 hc hu => p6.keep b cur u hc ?_ ?_ ?_ (Or.inr ?_))
    · rcases hu with rfl | rfl <;> decide
    · rcases hu with rfl | rfl <;> decide
    · rcases hu with rfl | rfl <;> decide
    · have := ho j t' hj ht'
      omega
theorem BK.clear {W : World} {bb B : Nat} {l2 l3 wt rt : Value} {ls l3s : List Value} (h : BK W bb B l2 l3 wt rt ls l3s) : BK ((((W.setCell ⟨bb, 5, none⟩ (.slice none 0 0)).setCell ⟨bb, 6, none⟩ (.slice none 0 0)).setCell ⟨bb, 7, none⟩ (.slice none 0 0)).setCell ⟨bb, 8, none⟩ (.slice none 0 0)) bb B l2 l3 (.slice none 0 0) (.slice none 0 0) ls l3s := by
  have hk : ∀ k, k ≠ bb → ((((W.setCell ⟨bb, 5, none⟩ (.slice none 0 0)).setCell ⟨bb, 6, none⟩ (.slice none 0 0)).setCell ⟨bb, 7, none⟩ (.slice none 0 0)).setCell ⟨bb, 8, none⟩ (.slice none 0 0)).heap[k]? = W.heap[k]? := fun k hk =>
    (Below.heap_setCell _ _ _ _ hk).trans ((Below.heap_setCell _ _ _ _ hk).trans ((Below.heap_setCell _ _ _ _ hk).trans (Below.heap_setCell _ _ _ _ hk)))
  have hne : ∀ (k : Nat) (cur : Array Value) (t : TypeId), W.heap[k]? = some (.cells cur t (0, 0)) → t ≠ 32 → k ≠ bb := by
    intro k cur t hc ht e
    subst e
    rw [h.box] at hc
    simp at hc
    exact ht hc.2.symm
  refine ⟨?_, own_by h.r2 (fun k cur _ hc => hk k (hne k cur _ hc (by decide))), own_by h.r3 (fun k cur _ hc => hk k (hne k cur _ hc (by decide))), fun i v hv => (h.m2 i v hv).of_block (fun k hb => ?_), fun i v hv => (h.m3 i v hv).of_block (fun k hb => ?_), by have := h.base; simp [World.setCell]; omega⟩
  · rw [heap_setCell_same _ _ _ _ _ _ (heap_setCell_same _ _ _ _ _ _ (heap_setCell_same _ _ _ _ _ _ (heap_setCell_same _ _ _ _ _ _ h.box)))]
    rfl
  · obtain ⟨cur, hc⟩ := (h.m2 i v hv).ty k hb
    exact hk k (hne k cur _ hc (by decide))
  · obtain ⟨cur, hc⟩ := (h.m3 i v hv).ty k hb
    exact hk k (hne k cur _ hc (by decide))
theorem SI.start {w W : World} {bb B : Nat} {wt rt : Value} {T : List Trc} (h : BW w bb B wt rt T) (hb : Below w.heap.size w W) : SI w W bb B w.heap.size 0 wt rt T (.slice none 0 0) (.slice none 0 0) [] [] := by
  have h2 := h.below hb
  have hB : B ≤ w.heap.size := by have := h.low; have := h.lt; omega
  refine ⟨⟨h2.box, World.ownsRow_nil _ _ _ _, World.ownsRow_nil _ _ _ _, by simp, by simp, Nat.le_trans hB hb.size⟩, h2.rw, ⟨0, rfl⟩, by simp, rfl, by simp, by simp, ?_, hb.mono hB⟩
  intro j t _ ht
  exact (h2.tr t (List.mem_of_getElem? ht)).tr
set_option maxHeartbeats 8000000 in
set_option maxRecDepth 100000 in
theorem settle_any (bb B : Nat) (wa ra : Option Addr) (wc rc : Nat) (T : List Trc) (w : World) (hW : BW w bb B (.slice wa T.length wc) (.slice ra T.length rc) T) (hT : T.length ≤ 3) :
    Calls Tryz.prog 11 #[.pointer (some ⟨bb, 0, none⟩)] w fun e W => e = .returned (.bool true) ∧ Below B w W ∧ ∃ l2a l2c l3a l3c ls l3s, BK W bb B (.slice l2a ls.length l2c) (.slice l3a l3s.length l3c) (.slice none 0 0) (.slice none 0 0) ls l3s ∧ ls.length ≤ 50000 ∧ l3s.length ≤ 50000 := by
  have HW := (show Hid _ from hW)
  have hbz := hW.lt
  clear hW
  go_enter Tryz.func11, Tryz.ntmps11
  go_wp2_with fail
  go_loopw [3, 4] (fun ok i wr => ok = .bool true ∧ ∃ k : Nat, k ≤ T.length ∧ i = .int .i64 k ∧ Hid (Below w.heap.size w wr)) (fun _ i _ => T.length - (intOf i).toNat)
  case atStart => exact ⟨rfl, 0, Nat.zero_le _, rfl, Below.refl _ _⟩
  case round =>
    obtain ⟨rfl, k, hk, rfl, HK⟩ := hrel
    obtain ⟨x1, x2⟩ := box_cells (HW.out.below HK.out).box
    simp only [bookCells] at x1
    by_cases hlt : k < T.length
    · as_aux_lemma =>
      have hlti : (k : Int) < (T.length : Int) := by omega
      obtain ⟨t, ht⟩ : ∃ t, T[k]? = some t := ⟨_, List.getElem?_eq_getElem hlt⟩
      have hwr := HW.out.below HK.out
      obtain ⟨g, rfl, gc⟩ := row3 (f := Trc.wc) (fun _ => rfl) hwr.rw ht
      obtain ⟨r, rfl, rcl⟩ := row3 (f := Trc.rcs) (fun _ => rfl) hwr.rr ht
      have g0 := gc 0 _ rfl
      have g1 := gc 1 _ rfl
      have g2 := gc 2 _ rfl
      have r0 := rcl 0 _ rfl
      have r1 := rcl 1 _ rfl
      have r2 := rcl 2 _ rfl
      rw [Nat.add_zero] at g0 r0
      have hok := hwr.tr t (List.mem_of_getElem? ht)
      have hsl : t.rstl.length = t.stl.length := by have := congrArg List.length hok.same; simpa [stOf] using this
      have hst : t.stl.length = (stOf t.stl).length := by simp [stOf]
      rw [hsl] at r2
      have HS : Hid (∀ W, Below wr.heap.size wr W → Calls Tryz.prog 28 #[.agg #[.int .i64 t.en, .slice t.oa t.outs.length t.oc, .slice t.sa t.stl.length t.sc], .agg #[.int .i64 t.en, .slice t.ra t.outs.length t.rc, .slice t.rs t.stl.length t.rd]] W fun e w' => e = .returned (.bool true) ∧ Below W.heap.size W w') := by
        intro W hb
        have hk2 := hok.below hb
        rw [hst]
        refine lsame_any t.en t.oa t.ra t.sa t.rs t.oc t.rc t.sc t.rd t.outs (stOf t.stl) W (ints_row hk2.tr.o) (ints_row hk2.ro) (steps_own hk2.tr.s (fun s hs => ⟨_, (hk2.tr.each s hs).1⟩)) ?_ hk2.tr.ol (by rw [← hst]; exact hk2.tr.sl) ?_
        · have := steps_own hk2.rr (fun s hs => ⟨_, hk2.re s hs⟩)
          rw [hk2.same] at this
          exact this
        · intro s hs
          simp only [stOf, List.mem_map] at hs
          obtain ⟨x, hx, rfl⟩ := hs
          exact (hk2.tr.each x hx).2.1
      clear hwr gc rcl hok ht hsl hst
      have HC := (show Hid _ from (⟨by rw [x1]; rfl, by rw [x1]; rfl, g0, g1, g2, r0, r1, r2⟩ : wr.cell? ⟨bb, 5, none⟩ = some (.slice (some ⟨g, 0, none⟩) T.length wc) ∧ wr.cell? ⟨bb, 6, none⟩ = some (.slice (some ⟨r, 0, none⟩) T.length rc) ∧ wr.cell? ⟨g, k * 3, none⟩ = some (.int .i64 t.en) ∧ wr.cell? ⟨g, k * 3 + 1, none⟩ = some (.slice t.oa t.outs.length t.oc) ∧ wr.cell? ⟨g, k * 3 + 2, none⟩ = some (.slice t.sa t.stl.length t.sc) ∧ wr.cell? ⟨r, k * 3, none⟩ = some (.int .i64 t.en) ∧ wr.cell? ⟨r, k * 3 + 1, none⟩ = some (.slice t.ra t.outs.length t.rc) ∧ wr.cell? ⟨r, k * 3 + 2, none⟩ = some (.slice t.rs t.stl.length t.rd)))
      go_wp2_with fail
      go_region_held3 (fun w' => w'.cell? ⟨bb, 5, none⟩ = some (.slice (some ⟨g, 0, none⟩) T.length wc) ∧ w'.cell? ⟨bb, 6, none⟩ = some (.slice (some ⟨r, 0, none⟩) T.length rc) ∧ w'.cell? ⟨g, k * 3, none⟩ = some (.int .i64 t.en) ∧ w'.cell? ⟨g, k * 3 + 1, none⟩ = some (.slice t.oa t.outs.length t.oc) ∧ w'.cell? ⟨g, k * 3 + 2, none⟩ = some (.slice t.sa t.stl.length t.sc) ∧ w'.cell? ⟨r, k * 3, none⟩ = some (.int .i64 t.en) ∧ w'.cell? ⟨r, k * 3 + 1, none⟩ = some (.slice t.ra t.outs.length t.rc) ∧ w'.cell? ⟨r, k * 3 + 2, none⟩ = some (.slice t.rs t.stl.length t.rd)) (go_keep) ((go_at_call 28; refine (HS.out wr.drew ((Below.refl wr.heap.size wr).drew)).mono ?_; rintro e0 W4 ⟨rfl, hb4⟩; have hb5 : Below wr.heap.size wr W4 := (Below.refl wr.heap.size wr).drew.trans hb4; have d1 := cell_stays HC.out.1 hb5; have d2 := cell_stays HC.out.2.1 hb5; have d3 := cell_stays HC.out.2.2.1 hb5; have d4 := cell_stays HC.out.2.2.2.1 hb5; have d5 := cell_stays HC.out.2.2.2.2.1 hb5; have d6 := cell_stays HC.out.2.2.2.2.2.1 hb5; have d7 := cell_stays HC.out.2.2.2.2.2.2.1 hb5; have d8 := cell_stays HC.out.2.2.2.2.2.2.2 hb5; have HB5 := (show Hid _ from hb5); clear hb4 hb5))
      go_wp2_with fail
      exact ⟨⟨rfl, k + 1, by omega, rfl, HK.out.trans (HB5.out.mono HK.out.size)⟩, by simp only [intOf]; omega⟩
    · have hlti : ¬ (k : Int) < (T.length : Int) := by omega
      go_wp2_with fail
      clear x1 x2
      go_loopw [3, 6] (fun ok i wi => ok = .bool true ∧ i = .int .i64 0 ∧ Hid (Below w.heap.size w wi)) (fun _ _ _ => 0)
      case atStart => exact ⟨rfl, rfl, HK⟩
      case round =>
        obtain ⟨rfl, rfl, HJ⟩ := hrel
        obtain ⟨y1, y2⟩ := box_cells (HW.out.below HJ.out).box
        simp only [bookCells] at y1
        go_wp2_with fail
        clear y1 y2
        go_loopw [8] (fun i wi => ∃ k : Nat, k ≤ T.length ∧ i = .int .i64 k ∧ Hid (∃ l2a l2c l3a l3c ls l3s, SI w wi bb B w.heap.size k (.slice wa T.length wc) (.slice ra T.length rc) T (.slice l2a ls.length l2c) (.slice l3a l3s.length l3c) ls l3s)) (fun i _ => T.length - (intOf i).toNat)
        case atStart => exact ⟨0, Nat.zero_le _, rfl, ⟨none, 0, none, 0, [], [], SI.start HW.out HJ.out⟩⟩
        case round =>
          obtain ⟨k, hk, rfl, HS⟩ := hrel
          obtain ⟨l2a, l2c, l3a, l3c, ls, l3s, hS⟩ := HS.out
          obtain ⟨y1, y2⟩ := box_cells hS.bk.box
          simp only [bookCells] at y1
          by_cases hlt : k < T.length
          · as_aux_lemma =>
            have hlti : (k : Int) < (T.length : Int) := by omega
            obtain ⟨t, ht⟩ : ∃ t, T[k]? = some t := ⟨_, List.getElem?_eq_getElem hlt⟩
            obtain ⟨g, rfl, gc⟩ := row3 (f := Trc.wc) (fun _ => rfl) hS.rw ht
            have g0 := gc 0 _ rfl
            have g1 := gc 1 _ rfl
            have g2 := gc 2 _ rfl
            rw [Nat.add_zero] at g0
            have hok := HW.out.tr t (List.mem_of_getElem? ht)
            obtain ⟨q, hq⟩ := hS.l4
            have hC := trace_any bb B t.c t.hi w.heap.size q k t.en t.oa t.sa l2a l3a t.oc t.sc l2c l3c t.outs t.stl (.slice (some ⟨g, 0, none⟩) T.length wc) (.slice ra T.length rc) ls l3s wr hS.bk (hS.tr k t (Nat.le_refl _) ht) (Nat.le_trans hS.bk.base (Nat.le_refl _)) HW.out.low hok.low hok.top hS.below.size hq hS.l3l (by have := hS.ll; omega) (by have := hS.l3l; omega) (fun v hv b hb => Or.elim (hS.c2 v hv b hb) (fun h => Or.inl (h k t (Nat.le_refl _) ht)) Or.inr) (fun v hv b hb => Or.elim (hS.c3 v hv b hb) (fun h => Or.inl (h k t (Nat.le_refl _) ht)) Or.inr)
            have HC := (show Hid _ from And.intro hC (And.intro hS (And.intro ht hok.tr.sl)))
            clear hC hS hok hq ht gc HS
            go_wp2_with (go_at_call 31; refine Calls.mono HC.out.1 ?_; rintro e W2 ⟨rfl, hP⟩)
            have hnx := HC.out.2.1.next HW.out.ord HC.out.2.2.1 HC.out.2.2.2 hP
            exact ⟨⟨k + 1, by omega, rfl, hnx⟩, by simp only [intOf]; omega⟩
          · obtain rfl : k = T.length := by omega
            have hlti : ¬ ((T.length : Int) < (T.length : Int)) := by omega
            have HQ := (show Hid _ from hS)
            clear hS HS
            go_wp2_with fail
            clear y1 y2
            go_loopw [9] (fun i wi => i = .int .i64 0 ∧ Hid (SI w wi bb B w.heap.size T.length (.slice wa T.length wc) (.slice ra T.length rc) T (.slice l2a ls.length l2c) (.slice l3a l3s.length l3c) ls l3s)) (fun _ _ => 0)
            case atStart => exact ⟨rfl, HQ⟩
            case round =>
              obtain ⟨rfl, HS⟩ := hrel
              obtain ⟨y1, y2⟩ := box_cells HS.out.bk.box
              simp only [bookCells] at y1
              go_wp2_with fail
              go_ret
              refine ⟨rfl, ?_, l2a, l2c, l3a, l3c, ls, l3s, HS.out.bk.clear, ?_, ?_⟩
              · have hl := HW.out.low
                exact (((HS.out.below.setCell hl _).setCell hl _).setCell hl _).setCell hl _
              · have := HS.out.ll
                omega
              · have := HS.out.l3l
                omega
end Go.Proofs.YtmipbiligijcpaaGreatDoor
namespace Go.Proofs.YtmipbiligijcpaaGreatDoor
set_option linter.unusedVariables false
set_option linter.unusedSimpArgs false
open Go.RowKit Go.Proofs Go.Maps

theorem run_outs (pl : List PN) (ps : List (Nam × Nat)) : ∀ (f k : Nat) (vals ins outs : List Int) (st : List (Nat × List Int)), (runF pl ps f k vals ins outs st).2.1.length ≤ outs.length + f := by
  intro f
  induction f with
  | zero => intro k vals ins outs st; simp [runF]
  | succ f ih =>
    intro k vals ins outs st
    rw [runF]
    split
    · simp
    · rename_i p _
      have hv := (vis_vals p.n vals ins outs).2
      split
      · have h1 := ih ((edgK ps p.nc k).getD (edgN p.n (vis p.n vals ins outs).2.1).toNat 0).toNat (vis p.n vals ins outs).2.1 (vis p.n vals ins outs).2.2.1 (vis p.n vals ins outs).2.2.2 (st ++ [(k, vals)])
        omega
      · simp only
        omega
theorem runR_small (s : ByteArray) (ins : List Int) (fuel : Int) : (runR s ins fuel).2.1.2.1.length ≤ 2000 ∧ (runR s ins fuel).2.1.2.2.length ≤ 2000 ∧ (runR s ins fuel).2.2 ≤ 8 ∧ ((runR s ins fuel).1 = 0 ∨ (runR s ins fuel).1 = 1 ∨ (runR s ins fuel).1 = 2 ∨ (runR s ins fuel).1 = 9) := by
  unfold runR
  split
  · simp
  · simp
  · rename_i pl vs hr
    split
    · simp
    · rename_i hn
      unfold runG
      split
      · simp
      · rename_i ps _
        obtain ⟨_, _, hok, _⟩ := prs_ok (show prs s = Pr.ok pl vs from hr)
        have hv8 : vs.length ≤ 8 := by simp only [progOk, Bool.and_eq_true, decide_eq_true_eq] at hok; exact hok.1.1.1
        have h1 := run_outs pl ps fuel.toNat 0 (List.replicate vs.length 0) ins [] []
        have h2 := (run_steps pl ps fuel.toNat 0 (List.replicate vs.length 0) ins [] []).1
        simp only [List.length_nil, Nat.zero_add] at h1 h2
        refine ⟨by simp only; omega, by simp only; omega, by simp only; exact hv8, Or.inl rfl⟩
/-- the program's Run: its trace's rows lie apart, in new memory -/
theorem wRun_tr (s : ByteArray) (ins : List Int) (ia : Option Addr) (ic : Nat) (fuel : Int) (w : World) (hE : Env w) (hI : InL w w.heap.size (.slice ia ins.length ic) ins) :
    Calls Tryz.prog 23 #[.string s, .slice ia ins.length ic, .int .i64 fuel] w fun e W => Below w.heap.size w W ∧ ∃ oa oc sa sc stl, e = .returned (.tuple #[.agg #[.int .i64 (runR s ins fuel).2.1.1, .slice oa (runR s ins fuel).2.1.2.1.length oc, .slice sa stl.length sc], .int .i64 (runR s ins fuel).1]) ∧ TrS W w.heap.size W.heap.size (.slice oa (runR s ins fuel).2.1.2.1.length oc) (.slice sa stl.length sc) (runR s ins fuel).2.1.2.1 stl ∧ stOf stl = (runR s ins fuel).2.1.2.2 := by
  obtain ⟨b1, b2, b3, _⟩ := runR_small s ins fuel
  refine (wRun_any s ins ia ic fuel w hE hI).mono ?_
  rintro e W ⟨hb, ov, sv, stl, rfl, h1, h2, h3, h4, h5⟩
  obtain ⟨oa, oc, rfl⟩ := sl_of_own h1
  obtain ⟨sa, sc, rfl⟩ := sl_of_own h2
  have hl : stl.length = (runR s ins fuel).2.1.2.2.length := by rw [← h3]; simp [stOf]
  refine ⟨hb, oa, oc, sa, sc, stl, rfl, ⟨h1, h2, fun x hx => ?_, h5, fun k hk => (h1.lt k hk).2, fun k hk => (h2.lt k hk).2, by omega, by omega⟩, h3⟩
  obtain ⟨a1, a2, q, a3, a4⟩ := h4 x hx
  exact ⟨a1, by omega, q, a3, (a1.lt q a3).2, a4⟩
/-- the caller's own list: the inputs, and -77 behind them -/
def OwnAt (W : World) (g : Nat) (xs : List Int) : Prop := W.heap[g]? = some (.cells ((xs.map (Value.int .i64)) ++ [Value.int .i64 (-77)]).toArray 2 (0, 0))
theorem OwnAt.cell {W : World} {g : Nat} {xs : List Int} (h : OwnAt W g xs) {j : Nat} {x : Int} (hj : xs[j]? = some x) : W.cell? ⟨g, j, none⟩ = some (.int .i64 x) := by
  have hl := (List.getElem?_eq_some_iff.1 hj).1
  simp only [World.cell?, show W.heap[g]? = _ from h]
  simp [List.getElem?_append_left, hl]
  exact (List.getElem?_eq_some_iff.1 hj).2
theorem OwnAt.last {W : World} {g : Nat} {xs : List Int} (h : OwnAt W g xs) : W.cell? ⟨g, xs.length, none⟩ = some (.int .i64 (-77)) := by
  simp only [World.cell?, show W.heap[g]? = _ from h]
  simp
theorem OwnAt.lt {W : World} {g : Nat} {xs : List Int} (h : OwnAt W g xs) : g < W.heap.size := (Array.getElem?_eq_some_iff.1 h).1
theorem OwnAt.ints {W : World} {g : Nat} {xs : List Int} (h : OwnAt W g xs) : IntsAt W (some ⟨g, 0, none⟩) xs := fun j x hj => ⟨g, 0, rfl, by rw [Nat.zero_add]; exact h.cell hj⟩
theorem OwnAt.inl {W : World} {g : Nat} {xs : List Int} (h : OwnAt W g xs) (hm : xs.length + 1 ≤ maxLen) : InL W W.heap.size (.slice (some ⟨g, 0, none⟩) xs.length (xs.length + 1)) xs :=
  ⟨_, _, rfl, by omega, hm, fun j x hj => ⟨g, 0, rfl, h.lt, by rw [Nat.zero_add]; exact h.cell hj⟩⟩
theorem OwnAt.below {W W' : World} {g : Nat} {xs : List Int} (h : OwnAt W g xs) (hb : Below W.heap.size W W') : OwnAt W' g xs := (hb.block g h.lt).trans h
theorem OwnAt.set {W : World} {g k : Nat} {xs : List Int} (h : OwnAt W g xs) (hk : k < xs.length) (y : Int) : OwnAt (W.setCell ⟨g, k, none⟩ (.int .i64 y)) g (xs.set k y) := by
  unfold OwnAt
  rw [heap_setCell_same _ _ _ _ _ _ h]
  congr 2
  apply Array.ext'
  rw [Array.toList_setIfInBounds]
  simp only [List.set_append_left _ _ (show k < (xs.map (Value.int .i64)).length by simpa using hk), List.map_set]
theorem inl_ints {W : World} {B n ic : Nat} {ia : Option Addr} {xs : List Int} (h : InL W B (.slice ia n ic) xs) : IntsAt W ia xs := by
  obtain ⟨ao, cap, e, _, _, h4⟩ := h
  cases e
  intro j x hj
  obtain ⟨b, o, h1, _, h2⟩ := h4 j x hj
  exact ⟨b, o, h1, h2⟩
theorem inl_up {w w' : World} {v : Value} {ins : List Int} (h : InL w w.heap.size v ins) (hb : Below w.heap.size w w') : InL w' w'.heap.size v ins := by
  obtain ⟨ao, cap, h1, h2, h3, h4⟩ := h
  refine ⟨ao, cap, h1, h2, h3, fun j x hj => ?_⟩
  obtain ⟨b, o, e, hlt, hc⟩ := h4 j x hj
  exact ⟨b, o, e, Nat.lt_of_lt_of_le hlt hb.size, (cell_block (hb.block b hlt)).trans hc⟩
theorem made_row {W : World} {B g n t : Nat} {xs : List Value} (h : W.ownsRow B t 1 (.slice (some ⟨g, 0, none⟩) n n) n xs) : W.heap[g]? = some (.cells xs.toArray t (0, 0)) := by
  rcases h.2 with ⟨e, _⟩ | ⟨g', cap, cur, e, _, hg, _, _, hs, ht⟩
  · cases e
  · cases e
    rw [hg]
    congr 2
    apply Array.ext'
    rw [← ht, List.take_of_length_le (by simp [hs])]
theorem splice_all (n : Nat) (cs : List Value) (hl : cs.length = n) : splice (List.replicate (n + 1) (Value.int .i64 0)) 0 cs = cs ++ [.int .i64 0] := by
  subst hl
  simp [splice]
theorem own_of_splice {W : World} {g : Nat} {xs : List Int} (h : W.heap[g]? = some (.cells ((xs.map (Value.int .i64)) ++ [Value.int .i64 0]).toArray 2 (0, 0))) : OwnAt (W.setCell ⟨g, xs.length, none⟩ (.int .i64 (-77))) g xs := by
  unfold OwnAt
  rw [heap_setCell_same _ _ _ _ _ _ h]
  congr 2
  apply Array.ext'
  rw [Array.toList_setIfInBounds]
  simp
theorem inl_copy {W : World} {B n ic : Nat} {ia : Option Addr} {xs : List Int} (h : InL W B (.slice ia n ic) xs) (h0 : 0 < (xs.map (Value.int .i64)).length) : ∃ ad, ia = some ad ∧ ∀ j v, (xs.map (Value.int .i64))[j]? = some v → W.cell? (ad.add j) = some v := by
  obtain ⟨ao, cap, e, _, _, h4⟩ := h
  cases e
  rw [List.length_map] at h0
  obtain ⟨b, o, e0, _, _⟩ := h4 0 _ (List.getElem?_eq_getElem h0)
  refine ⟨_, e0, fun j v hj => ?_⟩
  rw [List.getElem?_map] at hj
  cases hx : xs[j]? with
  | none => rw [hx] at hj; cases hj
  | some x =>
    rw [hx] at hj
    cases hj
    obtain ⟨b', o', e1, _, h2⟩ := h4 j x hx
    rw [e0] at e1
    cases e1
    rw [Addr.add_lit]
    exact h2
/-- what the caller makes of a number -/
def turnd (x : Int) : Int := wrap64 (wrap64 (-x) - 1)
theorem set_turnd (k : Nat) (xs : List Int) (x : Int) (hx : xs[k]? = some x) : ((xs.take k).map turnd ++ xs.drop k).set k (turnd x) = (xs.take (k + 1)).map turnd ++ xs.drop (k + 1) := by
  obtain ⟨hk, rfl⟩ := List.getElem?_eq_some_iff.1 hx
  have hm : ((xs.take k).map turnd).length = k := by simp; omega
  rw [List.set_append_right _ _ (by omega), hm, Nat.sub_self, List.drop_eq_getElem_cons hk, List.set_cons_zero, List.take_succ_eq_append_getElem hk, List.map_append]
  simp
end Go.Proofs.YtmipbiligijcpaaGreatDoor
namespace Go.Proofs.YtmipbiligijcpaaGreatDoor
set_option linter.unusedVariables false
set_option linter.unusedSimpArgs false
open Go.RowKit Go.Proofs Go.Maps

theorem lnum_any (q : Int) (w : World) (h : q = 0 ∨ q = 1 ∨ q = 2 ∨ q = 9) : Calls Tryz.prog 26 #[.int .i64 q] w fun e w' => e = .returned (.int .i64 q) ∧ w' = w := by
  rcases h with rfl | rfl | rfl | rfl
  all_goals
    go_enter Tryz.func26, Tryz.ntmps26
    go_wp2
    go_ret
    exact ⟨rfl, rfl⟩
theorem ran_made {w W2 : World} {n : Nat} (h : W2.ownsRow w.heap.size 2 1 (.slice (some ⟨w.heap.size, 0, none⟩) (n + 1) (n + 1)) (n + 1) (madeCells (Value.int IntKind.i64 0).cells ((n + 1) * 1)).toList) (hg : w.grownBy W2 none) : W2.heap[w.heap.size]? = some (.cells (List.replicate (n + 1) (Value.int .i64 0)).toArray 2 (0, 0)) ∧ Below w.heap.size w W2 := by
  rw [show (Value.int IntKind.i64 0).cells = #[.int .i64 0] from rfl, toList_madeCells_one, Nat.mul_one] at h
  exact ⟨made_row h, ⟨hg.os, hg.tape, hg.output, hg.size, fun k hk => hg.block k hk (by simp)⟩⟩
theorem info64s : (Tryz.prog.info? 2).map (·.size) = some 1 := by kernel_rfl
theorem wRun_n (s : ByteArray) (ins : List Int) (fuel : Int) (n : Nat) (er en : Int) (outs : List Int) (st : List (Nat × List Int)) (nv : Nat) (hn : ins.length = n) (hr : runR s ins fuel = (er, (en, outs, st), nv)) (ia : Option Addr) (ic : Nat) (w : World) (hE : Env w) (hI : InL w w.heap.size (.slice ia n ic) ins) :
    Calls Tryz.prog 23 #[.string s, .slice ia n ic, .int .i64 fuel] w fun e W => Below w.heap.size w W ∧ ∃ oa oc sa sc stl, e = .returned (.tuple #[.agg #[.int .i64 en, .slice oa outs.length oc, .slice sa stl.length sc], .int .i64 er]) ∧ TrS W w.heap.size W.heap.size (.slice oa outs.length oc) (.slice sa stl.length sc) outs stl ∧ stOf stl = st := by
  subst hn
  have h := wRun_tr s ins ia ic fuel w hE hI
  rw [hr] at h
  exact h
theorem dRun_n (s : ByteArray) (fuel : Int) (hD : ∀ (ins : List Int) (ia : Option Addr) (ic : Nat) (w : World), InL w w.heap.size (.slice ia ins.length ic) ins → Calls Tryz.prog 27 #[.string s, .slice ia ins.length ic, .int .i64 fuel] w (DocAns w (runR s ins fuel))) (ins : List Int) (n : Nat) (er en : Int) (outs : List Int) (st : List (Nat × List Int)) (nv : Nat) (hn : ins.length = n) (hr : runR s ins fuel = (er, (en, outs, st), nv)) (ia : Option Addr) (ic : Nat) (w : World) (hI : InL w w.heap.size (.slice ia n ic) ins) :
    Calls Tryz.prog 27 #[.string s, .slice ia n ic, .int .i64 fuel] w fun e W => Below w.heap.size w W ∧ ∃ ra rc rs rd rstl, e = .returned (.tuple #[.agg #[.int .i64 en, .slice ra outs.length rc, .slice rs rstl.length rd], .int .i64 er]) ∧ W.ownsRow w.heap.size 2 1 (.slice ra outs.length rc) outs.length (outs.map (Value.int .i64)) ∧ W.ownsRow w.heap.size 113 2 (.slice rs rstl.length rd) rstl.length (stCells rstl) ∧ stOf rstl = st ∧ (∀ s ∈ rstl, W.ownsRow w.heap.size 2 1 s.2.1 s.2.2.length (s.2.2.map (Value.int .i64))) := by
  subst hn
  have h := hD ins ia ic w hI
  rw [hr] at h
  exact h
theorem pair_tok {W4 W5 : World} {B c b5 : Nat} {en : Int} {outs : List Int} {st : List (Nat × List Int)} {oa sa ra rs : Option Addr} {oc sc rc rd : Nat} {stl rstl : List Stp} (h : TrS W4 c W4.heap.size (.slice oa outs.length oc) (.slice sa stl.length sc) outs stl) (hs : stOf stl = st) (hb : Below W4.heap.size W4 W5) (h1 : W5.ownsRow b5 2 1 (.slice ra outs.length rc) outs.length (outs.map (Value.int .i64))) (h2 : W5.ownsRow b5 113 2 (.slice rs rstl.length rd) rstl.length (stCells rstl)) (h3 : stOf rstl = st) (h4 : ∀ s ∈ rstl, W5.ownsRow b5 2 1 s.2.1 s.2.2.length (s.2.2.map (Value.int .i64))) (hB : B ≤ c) (hB5 : B ≤ b5) : TOk W5 B ⟨en, oa, sa, ra, rs, oc, sc, rc, rd, outs, stl, rstl, c, W4.heap.size⟩ :=
  ⟨h.below hb, hB, hb.size, own_mono h1 hB5, own_mono h2 hB5, fun s hs => own_mono (h4 s hs) hB5, h3.trans hs.symm⟩
theorem TOk.lower {W : World} {B B' : Nat} {t : Trc} (h : TOk W B t) (hB : B' ≤ B) : TOk W B' t :=
  ⟨h.tr, Nat.le_trans hB h.low, h.top, own_mono h.ro hB, own_mono h.rr hB, fun s hs => own_mono (h.re s hs) hB, h.same⟩
theorem TOk.fr {w W : World} {B : Nat} {t : Trc} (h : TOk w B t) (hz : w.heap.size ≤ W.heap.size) (hk : ∀ k, B ≤ k → k < w.heap.size → W.heap[k]? = w.heap[k]?) : TOk W B t :=
  ⟨h.tr.by (fun k _ _ h1 _ hc _ => hk k (Nat.le_trans h.low h1) (Array.getElem?_eq_some_iff.1 hc).1), h.low, Nat.le_trans h.top hz, own_by h.ro (fun k _ e _ => hk k (h.ro.lt k e).1 (h.ro.lt k e).2), own_by h.rr (fun k _ e _ => hk k (h.rr.lt k e).1 (h.rr.lt k e).2), fun s hs => own_by (h.re s hs) (fun k _ e _ => hk k ((h.re s hs).lt k e).1 ((h.re s hs).lt k e).2), h.same⟩
theorem tok_same {W : World} {B : Nat} {t : Trc} (hk : TOk W B t) : Calls Tryz.prog 28 #[.agg #[.int .i64 t.en, .slice t.oa t.outs.length t.oc, .slice t.sa t.stl.length t.sc], .agg #[.int .i64 t.en, .slice t.ra t.outs.length t.rc, .slice t.rs t.rstl.length t.rd]] W fun e w' => e = .returned (.bool true) ∧ Below W.heap.size W w' := by
  have hsl : t.rstl.length = t.stl.length := by have := congrArg List.length hk.same; simpa [stOf] using this
  have hst : t.stl.length = (stOf t.stl).length := by simp [stOf]
  rw [hsl, hst]
  refine lsame_any t.en t.oa t.ra t.sa t.rs t.oc t.rc t.sc t.rd t.outs (stOf t.stl) W (ints_row hk.tr.o) (ints_row hk.ro) (steps_own hk.tr.s (fun s hs => ⟨_, (hk.tr.each s hs).1⟩)) ?_ hk.tr.ol (by rw [← hst]; exact hk.tr.sl) ?_
  · have := steps_own hk.rr (fun s hs => ⟨_, hk.re s hs⟩)
    rw [hk.same] at this
    exact this
  · intro s hs
    simp only [stOf, List.mem_map] at hs
    obtain ⟨x, hx, rfl⟩ := hs
    exact (hk.tr.each x hx).2.1
/-- the book's two rows, while one is written -/
structure BX (W : World) (bb B : Nat) (wt rt : Value) (nw nr : Nat) (xs ys : List Value) : Prop where
  box : W.heap[bb]? = some (.cells (bookCells (.slice none 0 0) (.slice none 0 0) wt rt) 32 (0, 0))
  rw : W.ownsRow B 57 3 wt nw xs
  rr : W.ownsRow B 57 3 rt nr ys
  ap : wt.ownBlock = none ∨ wt.ownBlock ≠ rt.ownBlock
  low : B ≤ bb
theorem BW.bx {W : World} {bb B : Nat} {wt rt : Value} {T : List Trc} (h : BW W bb B wt rt T) : BX W bb B wt rt T.length T.length (T.flatMap Trc.wc) (T.flatMap Trc.rcs) := ⟨h.box, h.rw, h.rr, h.ap, h.low⟩
theorem BX.lt {W : World} {bb B : Nat} {wt rt : Value} {nw nr : Nat} {xs ys : List Value} (h : BX W bb B wt rt nw nr xs ys) : bb < W.heap.size := (Array.getElem?_eq_some_iff.1 h.box).1
theorem BX.below {W W' : World} {bb B : Nat} {wt rt : Value} {nw nr : Nat} {xs ys : List Value} (h : BX W bb B wt rt nw nr xs ys) (hb : Below W.heap.size W W') : BX W' bb B wt rt nw nr xs ys :=
  ⟨(hb.block _ h.lt).trans h.box, own_of_below h.rw hb, own_of_below h.rr hb, h.ap, h.low⟩
theorem BX.pushW {W W' W4 : World} {bb B : Nat} {wt rt v4 : Value} {nw nr : Nat} {xs ys cs : List Value} (h : BX W bb B wt rt nw nr xs ys) (hb : Below W.heap.size W W') (hg : W'.grownBy W4 wt.ownBlock) (ho : W4.ownsRow B 57 3 v4 (nw + 1) (xs ++ cs)) (hn : v4.ownBlock = wt.ownBlock ∨ v4.ownBlock = some W'.heap.size) : BX (W4.setCell ⟨bb, 5, none⟩ v4) bb B v4 rt (nw + 1) nr (xs ++ cs) ys ∧ Fr (fun k => k ≠ bb ∧ some k ≠ wt.ownBlock) W (W4.setCell ⟨bb, 5, none⟩ v4) := by
  have h2 := h.below hb
  have hbw := own_ty h2.rw h2.box (by decide)
  have hb4 : W4.heap[bb]? = some (.cells (bookCells (.slice none 0 0) (.slice none 0 0) wt rt) 32 (0, 0)) := (hg.block bb h2.lt hbw).trans h2.box
  have hset := grown_self W4 bb 5 v4
  have hrt : rt.ownBlock = none ∨ rt.ownBlock ≠ wt.ownBlock := by
    rcases h.ap with e | e
    · rw [e]
      exact Classical.em _
    · exact Or.inr (fun e2 => e e2.symm)
  have hr4 := h2.rr.kept hg hrt
  refine ⟨⟨?_, ho.kept hset (Or.inr (fun e => own_ty ho hb4 (by decide) e.symm)), hr4.kept hset (Or.inr (fun e => own_ty hr4 hb4 (by decide) e.symm)), ?_, h.low⟩, ?_⟩
  · rw [heap_setCell_same _ _ _ _ _ _ hb4]; rfl
  · rcases hn with e | e
    · rw [e]; exact h.ap
    · right
      rw [e]
      intro e2
      have := (h2.rr.lt _ e2.symm).2
      omega
  · refine ⟨hg.os.trans hb.os, hg.tape.trans hb.tape, hg.output.trans hb.output, by have := hg.size; have := hb.size; simp [World.setCell]; omega, fun k hk hp => ?_⟩
    exact (Below.heap_setCell _ _ _ _ hp.1).trans ((hg.block k (by have := hb.size; omega) hp.2).trans (hb.block k hk))
theorem BX.pushR {W W' W4 : World} {bb B : Nat} {wt rt v4 : Value} {nw nr : Nat} {xs ys cs : List Value} (h : BX W bb B wt rt nw nr xs ys) (hb : Below W.heap.size W W') (hg : W'.grownBy W4 rt.ownBlock) (ho : W4.ownsRow B 57 3 v4 (nr + 1) (ys ++ cs)) (hn : v4.ownBlock = rt.ownBlock ∨ v4.ownBlock = some W'.heap.size) : BX (W4.setCell ⟨bb, 6, none⟩ v4) bb B wt v4 nw (nr + 1) xs (ys ++ cs) ∧ Fr (fun k => k ≠ bb ∧ some k ≠ rt.ownBlock) W (W4.setCell ⟨bb, 6, none⟩ v4) := by
  have h2 := h.below hb
  have hbw := own_ty h2.rr h2.box (by decide)
  have hb4 : W4.heap[bb]? = some (.cells (bookCells (.slice none 0 0) (.slice none 0 0) wt rt) 32 (0, 0)) := (hg.block bb h2.lt hbw).trans h2.box
  have hset := grown_self W4 bb 6 v4
  have hr4 := h2.rw.kept hg h.ap
  refine ⟨⟨?_, hr4.kept hset (Or.inr (fun e => own_ty hr4 hb4 (by decide) e.symm)), ho.kept hset (Or.inr (fun e => own_ty ho hb4 (by decide) e.symm)), ?_, h.low⟩, ?_⟩
  · rw [heap_setCell_same _ _ _ _ _ _ hb4]; rfl
  · rcases hn with e | e
    · rw [e]; exact h.ap
    · right
      rw [e]
      intro e2
      have := (h2.rw.lt _ e2).2
      omega
  · refine ⟨hg.os.trans hb.os, hg.tape.trans hb.tape, hg.output.trans hb.output, by have := hg.size; have := hb.size; simp [World.setCell]; omega, fun k hk hp => ?_⟩
    exact (Below.heap_setCell _ _ _ _ hp.1).trans ((hg.block k (by have := hb.size; omega) hp.2).trans (hb.block k hk))
/-- what is on the heap of the book's traces stays while the rows are written -/
theorem BX.keep {W W' : World} {bb B : Nat} {wt rt : Value} {nw nr : Nat} {xs ys : List Value} {t : Trc} (h : BX W bb B wt rt nw nr xs ys) (hf : Fr (fun k => k ≠ bb ∧ some k ≠ wt.ownBlock ∧ some k ≠ rt.ownBlock) W W') (ht : TOk W B t) : TOk W' B t := by
  refine ht.by hf.size (fun k cur ty hc hty => hf.block k (Array.getElem?_eq_some_iff.1 hc).1 ⟨?_, ?_, ?_⟩)
  · intro e
    subst e
    rw [h.box] at hc
    simp at hc
    rcases hty with e | e <;> (rw [e] at hc; exact absurd hc.2 (by decide))
  · exact own_ty h.rw hc (by rcases hty with e | e <;> (rw [e]; decide))
  · exact own_ty h.rr hc (by rcases hty with e | e <;> (rw [e]; decide))
theorem BX.close {W : World} {bb B : Nat} {wt rt : Value} {T : List Trc} {t : Trc} (h : BX W bb B wt rt (T.length + 1) (T.length + 1) (T.flatMap Trc.wc ++ t.wc) (T.flatMap Trc.rcs ++ t.rcs)) (htr : ∀ t' ∈ T ++ [t], TOk W B t') (hord : T.Pairwise (fun a b => a.hi ≤ b.c)) (ht : ∀ t' ∈ T, t'.hi ≤ t.c) : BW W bb B wt rt (T ++ [t]) := by
  have hl : (T ++ [t]).length = T.length + 1 := by simp
  refine ⟨h.box, ?_, ?_, h.ap, htr, ?_, h.low⟩
  · rw [hl, List.flatMap_append]; simpa using h.rw
  · rw [hl, List.flatMap_append]; simpa using h.rr
  · rw [List.pairwise_append]
    exact ⟨hord, List.pairwise_singleton _ _, fun a ha b hb => by simp at hb; subst hb; exact ht a ha⟩
theorem own_inl {W : World} {B n cap : Nat} {ao : Option Addr} {xs : List Int} (h : W.ownsRow B 2 1 (.slice ao n cap) n (xs.map (Value.int .i64))) (hn : xs.length = n) : InL W W.heap.size (.slice ao n cap) xs := by
  subst hn
  rcases h.2 with ⟨e, e0⟩ | ⟨g, cap', cur, e, hb, hg, hc, hm, hs, ht⟩
  · injection e with e1 e2 e3
    subst e1
    subst e3
    refine ⟨none, 0, rfl, by omega, by simp, fun j x hj => ?_⟩
    have := (List.getElem?_eq_some_iff.1 hj).1
    omega
  · cases e
    refine ⟨_, cap, rfl, hc, hm, fun j x hj => ⟨g, 0, rfl, (Array.getElem?_eq_some_iff.1 hg).1, ?_⟩⟩
    have hjl := (List.getElem?_eq_some_iff.1 hj).1
    have h1 : (xs.map (Value.int .i64))[j]? = some (.int .i64 x) := by simp [hj]
    rw [← ht, List.getElem?_take, if_pos (by omega)] at h1
    simp only [World.cell?, hg, Nat.zero_add]
    simpa using h1
theorem own_inln {W : World} {g n : Nat} {xs : List Int} (h : OwnAt W g xs) (hn : xs.length = n) (hm : n + 1 ≤ maxLen) : InL W W.heap.size (.slice (some ⟨g, 0, none⟩) n (n + 1)) xs := by
  subst hn
  exact h.inl hm
theorem OwnAt.news {W : World} {g : Nat} {xs : List Int} (h : OwnAt W g xs) : (∀ j u, (xs.map (Value.int .i64))[j]? = some u → W.cell? ((⟨g, 0, none⟩ : Addr).add j) = some u) ∧ (∀ u ∈ xs.map (Value.int .i64), u.oneCell' = true) := by
  refine ⟨fun j u hu => ?_, fun u hu => ?_⟩
  · rw [List.getElem?_map] at hu
    cases hx : xs[j]? with
    | none => rw [hx] at hu; cases hu
    | some x =>
      rw [hx] at hu
      cases hu
      rw [Addr.add_lit, Nat.zero_add]
      exact h.cell hx
  · obtain ⟨x, _, rfl⟩ := List.mem_map.1 hu
    rfl
theorem below_of_fr {w u v : World} (h : Below w.heap.size w u) (hf : Fr (fun k => k ≠ w.heap.size) u v) : Below w.heap.size w v :=
  ⟨hf.os.trans h.os, hf.tape.trans h.tape, hf.output.trans h.output, Nat.le_trans h.size hf.size, fun k hk => (hf.block k (Nat.lt_of_lt_of_le hk h.size) (Nat.ne_of_lt hk)).trans (h.block k hk)⟩
theorem below_grown {w w' : World} (h : w.grownBy w' none) : Below w.heap.size w w' := ⟨h.os, h.tape, h.output, h.size, fun k hk => h.block k hk (by simp)⟩
theorem tr_cells {W : World} {b : Nat} {x y z : Value} {t : TypeId} (h : W.heap[b]? = some (.cells #[x, y, z] t (0, 0))) : W.cell? ⟨b, 0, none⟩ = some x ∧ W.cell? ⟨b, 1, none⟩ = some y ∧ W.cell? ⟨b, 2, none⟩ = some z := by
  refine ⟨?_, ?_, ?_⟩ <;> (rw [(box_cells h).1]; rfl)
theorem stay_at {W W' : World} {b : Nat} {o : Obj} (h : W.heap[b]? = some o) (hb : Below W.heap.size W W') : W'.heap[b]? = some o := (hb.block b (Array.getElem?_eq_some_iff.1 h).1).trans h
theorem infoTr : (Tryz.prog.info? 57).map (fun i => (i.zero, i.size, i.bytes)) = some (some (.agg #[.int .i64 0, .slice none 0 0, .slice none 0 0]), 3, 56) := by kernel_rfl
theorem cell_three_at (W : World) (x y z : Value) (t : TypeId) (k : Nat) (hk : k = W.heap.size) : ∀ j u, [x, y, z][j]? = some u → (W.alloc (.cells #[x, y, z] t)).cell? ((⟨k, 0, none⟩ : Addr).add j) = some u := by
  subst hk
  intro j u hj
  match j, hj with
  | 0, hj => simp at hj; subst hj; simp [Addr.add]
  | 1, hj => simp at hj; subst hj; simp [Addr.add]
  | 2, hj => simp at hj; subst hj; simp [Addr.add]
theorem BX.bookW {W W' W4 : World} {bb B : Nat} {wt rt : Value} {nw nr : Nat} {xs ys : List Value} (h : BX W bb B wt rt nw nr xs ys) (hb : Below W.heap.size W W') (hg : W'.grownBy W4 wt.ownBlock) : (W4.cell? ⟨bb, 5, none⟩ = some wt) ∧ (∀ o, W4.frozen? ⟨bb, o, none⟩ = false) := by
  have h2 := h.below hb
  obtain ⟨x, y⟩ := box_cells ((hg.block bb h2.lt (own_ty h2.rw h2.box (by decide))).trans h2.box)
  exact ⟨by rw [x]; rfl, y⟩
theorem BX.bookR {W W' W4 : World} {bb B : Nat} {wt rt : Value} {nw nr : Nat} {xs ys : List Value} (h : BX W bb B wt rt nw nr xs ys) (hb : Below W.heap.size W W') (hg : W'.grownBy W4 rt.ownBlock) : (W4.cell? ⟨bb, 6, none⟩ = some rt) ∧ (∀ o, W4.frozen? ⟨bb, o, none⟩ = false) := by
  have h2 := h.below hb
  obtain ⟨x, y⟩ := box_cells ((hg.block bb h2.lt (own_ty h2.rr h2.box (by decide))).trans h2.box)
  exact ⟨by rw [x]; rfl, y⟩
theorem far1_heap {w : World} {k : Nat} (hk : k < w.heap.size) (o : Obj) : ((w.alloc o).drew).heap[k]? = w.heap[k]? := Below.heap_alloc w o k hk
theorem far1 {w : World} {k : Nat} (hk : k < w.heap.size) : ∀ (o : Obj) (j : Nat), ((w.alloc o).drew).cell? ⟨k, j, none⟩ = w.cell? ⟨k, j, none⟩ := fun o _ => cell_block (far1_heap hk o)
theorem far1_fz {w : World} {k : Nat} (hk : k < w.heap.size) : ∀ (o : Obj) (j : Nat), ((w.alloc o).drew).frozen? ⟨k, j, none⟩ = w.frozen? ⟨k, j, none⟩ := fun o j => by simp only [World.frozen?, far1_heap hk o]
theorem turnd_at (k : Nat) (xs : List Int) (hk : k ≤ xs.length) : ((xs.take k).map turnd ++ xs.drop k)[k]? = xs[k]? := by
  have hm : ((xs.take k).map turnd).length = k := by simp; omega
  rw [List.getElem?_append_right (by omega), hm, Nat.sub_self, List.getElem?_drop, Nat.add_zero]
end Go.Proofs.YtmipbiligijcpaaGreatDoor
