/- A part of the proof: contracts of functions of the program. -/
import Derived.Test.YtnmgdcmeomkocaaGreatDoorA40
namespace Go.Proofs.YtnmgdcmeomkocaaGreatDoor
set_option linter.unusedVariables false
set_option linter.unusedSimpArgs false
open Go.RowKit Go.Proofs Go.Maps

theorem infoNums : (Tryz.prog.info? 23).map (fun i => (i.zero, i.size, i.bytes)) = some (some (.slice none 0 0), 1, 24) := by kernel_rfl
def bookCells (l2 l3 wt rt : Value) : Array Value := #[.slice none 0 0, l2, l3, .slice none 0 0, .slice none 0 0, wt, rt, .slice none 0 0, .slice none 0 0]
/-- what a list's writing leaves: the list, and what stands behind it, read as they were written -/
structure NumS (w W : World) (bb B : Nat) (lv l2 l2' l3 wt rt : Value) (ls : List Value) (mk : Int) (x y z : Value) : Prop where
  box : W.heap[bb]? = some (.cells (bookCells l2' l3 wt rt) 32 (0, 0))
  row : W.ownsRow B 23 1 l2' (ls.length + 4) (ls ++ [lv, x, y, z])
  mks : ∀ v ∈ [lv, x, y, z], MkAt W 2 [.int .i64 mk] v ∧ (v.ownBlock = lv.ownBlock ∨ ∃ q, v.ownBlock = some q ∧ w.heap.size ≤ q)
  new : l2'.ownBlock = l2.ownBlock ∨ ∃ q, l2'.ownBlock = some q ∧ w.heap.size ≤ q
  fr : Fr (fun k => k ≠ bb ∧ some k ≠ lv.ownBlock ∧ some k ≠ l2.ownBlock) w W
theorem own_ne_bx {w : World} {bb B n e size : Nat} {v : Value} {xs : List Value} {cs : Array Value} {t : TypeId} (h : w.ownsRow B e size v n xs) (hb : w.heap[bb]? = some (.cells cs t (0, 0))) (he : e ≠ t) : some bb ≠ v.ownBlock := by
  intro e0
  obtain ⟨c1, f1, h1⟩ := own_cells h bb e0.symm
  rw [h1] at hb
  simp at hb
  exact he hb.2.1
/-- the row l, and what was put behind it, one after another -/
structure AP (w W : World) (B t n : Nat) (pt : List Value) (l x : Value) (V : List Value) : Prop where
  row : W.ownsRow B t pt.length x n (marks n pt)
  mks : ∀ v ∈ V, MkAt W t pt v ∧ lenOf v ≤ n ∧ (v.ownBlock = l.ownBlock ∨ ∃ q, v.ownBlock = some q ∧ w.heap.size ≤ q)
  xb : x.ownBlock = l.ownBlock ∨ ∃ q, x.ownBlock = some q ∧ w.heap.size ≤ q
  fr : Fr (fun k => some k ≠ l.ownBlock) w W
theorem AP.base {w W : World} {B t n : Nat} {pt : List Value} {l x : Value} {V : List Value} (h : AP w W B t n pt l x V) (hB : B ≤ w.heap.size) (o : Obj) : B ≤ (W.alloc o).heap.size := by
  have := h.fr.size
  simp
  omega
theorem AP.step {w W W2 : World} {B t n : Nat} {pt : List Value} {l x x' : Value} {V : List Value} {o : Obj} (h : AP w W B t n pt l x V) (h1 : W2.ownsRow B t pt.length x' (n + 1) (marks n pt ++ pt)) (h2 : W2.ownsRow B t pt.length x n (marks n pt)) (hg : (W.alloc o).grownBy W2 x.ownBlock) (hn : x'.ownBlock = x.ownBlock ∨ x'.ownBlock = some (W.alloc o).heap.size) : AP w W2 B t (n + 1) pt l x' (V ++ [x']) := by
  have hga : W.grownBy W2 x.ownBlock := (World.grownBy_alloc W o _).trans hg
  rw [← marks_succ] at h1
  have hsz := h.fr.size
  have hxb : x'.ownBlock = l.ownBlock ∨ ∃ q, x'.ownBlock = some q ∧ w.heap.size ≤ q := by
    rcases hn with e | e
    · rw [e]; exact h.xb
    · exact Or.inr ⟨_, e, by simp; omega⟩
  refine ⟨h1, ?_, hxb, ?_⟩
  · intro v hv
    rcases List.mem_append.1 hv with hv | hv
    · obtain ⟨a, b, c⟩ := h.mks v hv
      exact ⟨a.step h2 hga b, by omega, c⟩
    · simp only [List.mem_singleton] at hv
      subst hv
      refine ⟨MkAt.of_own h1, ?_, hxb⟩
      obtain ⟨a, c, rfl⟩ := sl_of_own h1
      exact Nat.le_refl _
  · refine h.fr.grown hga (fun k hk hp e => ?_)
    rcases h.xb with e2 | ⟨q, e2, hq⟩
    · exact hp (e.trans e2)
    · rw [e2] at e
      cases e
      omega
theorem cell_four (w : World) (a b c d : Value) (t : TypeId) : ∀ j u, [a, b, c, d][j]? = some u → (w.alloc (.cells #[a, b, c, d] t)).cell? ((⟨w.heap.size, 0, none⟩ : Addr).add j) = some u := by
  intro j u hj
  match j, hj with
  | 0, hj => simp at hj; subst hj; simp [Addr.add]
  | 1, hj => simp at hj; subst hj; simp [Addr.add]
  | 2, hj => simp at hj; subst hj; simp [Addr.add]
  | 3, hj => simp at hj; subst hj; simp [Addr.add]
theorem set_marks (k n : Nat) (a : Value) (xs : List Value) (hk : k < xs.length) : (marks k [a] ++ xs.drop k).set k a = marks (k + 1) [a] ++ xs.drop (k + 1) := by
  have hm : (marks k [a]).length = k := by rw [marks_len]; simp
  rw [List.set_append_right _ _ (by omega), hm, Nat.sub_self, List.drop_eq_getElem_cons hk, List.set_cons_zero, marks_succ]
  simp
theorem num_done {o : Obj} {w W W5 : World} {bb B n : Nat} {lv l2 l2' l3 wt rt x y z xx : Value} {ls : List Value} {mk : Int} (h : AP w W B 2 n [.int .i64 mk] lv xx ([lv] ++ [x] ++ [y] ++ [z])) (hbox : W.heap[bb]? = some (.cells (bookCells l2 l3 wt rt) 32 (0, 0))) (hr : W.ownsRow B 23 1 l2 ls.length ls) (hne : some bb ≠ l2.ownBlock) (hbz : bb < w.heap.size) (hg : W.grownBy W5 l2.ownBlock) (ho : W5.ownsRow B 23 1 l2' (ls.length + 4) (ls ++ [lv, x, y, z])) (hn : l2'.ownBlock = l2.ownBlock ∨ l2'.ownBlock = some (W.alloc o).heap.size) : NumS w (W5.setCell ⟨bb, 1, none⟩ l2') bb B lv l2 l2' l3 wt rt ls mk x y z := by
  have hz := h.fr.size
  have hb5 : W5.heap[bb]? = some (.cells (bookCells l2 l3 wt rt) 32 (0, 0)) := (hg.block bb (by omega) hne).trans hbox
  have hs := grown_self W5 bb 1 l2'
  refine ⟨?_, ?_, ?_, ?_, ?_⟩
  · rw [heap_setCell_same _ _ _ _ _ _ hb5]; rfl
  · refine ho.kept hs ?_
    have := own_ne_bx ho hb5 (by decide)
    exact Or.inr (fun e => this e.symm)
  · intro v hv
    obtain ⟨a, _, c⟩ := h.mks v (by simpa using hv)
    refine ⟨a.of_block (fun k hk => ?_), c⟩
    obtain ⟨cur, hc⟩ := a.ty k hk
    have hkl := a.lt k hk
    have e1 : some k ≠ l2.ownBlock := by
      intro e
      obtain ⟨c1, f1, h1⟩ := own_cells hr k e.symm
      rw [h1] at hc
      simp at hc
    have e2 : k ≠ bb := by
      intro e
      subst e
      rw [hbox] at hc
      simp at hc
    exact (Below.heap_setCell _ _ _ _ e2).trans (hg.block k hkl e1)
  · rcases hn with e | e
    · exact Or.inl e
    · exact Or.inr ⟨_, e, by simp; omega⟩
  · refine (h.fr.mono (Q := fun k => k ≠ bb ∧ some k ≠ lv.ownBlock ∧ some k ≠ l2.ownBlock) (fun k _ hp => hp.2.1)).trans (Q := fun k => k ≠ bb ∧ some k ≠ l2.ownBlock) ?_ (fun k _ hp => ⟨hp.1, hp.2.2⟩)
    refine ⟨hg.os, hg.tape, hg.output, by have := hg.size; simp [World.setCell]; omega, fun k hk hp => ?_⟩
    exact (Below.heap_setCell _ _ _ _ hp.1).trans (hg.block k hk hp.2)
set_option maxHeartbeats 4000000 in
set_option maxRecDepth 100000 in
theorem numbers_any (bb B q : Nat) (la l2a : Option Addr) (lc l2c : Nat) (xs : List Int) (l3 wt rt : Value) (ls : List Value) (w : World)
    (hbox : w.heap[bb]? = some (.cells (bookCells (.slice l2a ls.length l2c) l3 wt rt) 32 (0, 0)))
    (hr2 : w.ownsRow B 23 1 (.slice l2a ls.length l2c) ls.length ls)
    (hl : w.ownsRow B 2 1 (.slice la xs.length lc) xs.length (xs.map (Value.int .i64)))
    (hB : B ≤ w.heap.size) (hn : xs.length ≤ 4000) (hL : ls.length ≤ 100000) (hq : ls.length = 4 * q) :
    Calls Tryz.prog 27 #[.pointer (some ⟨bb, 0, none⟩), .slice la xs.length lc] w fun e W => e = .returned (.tuple #[]) ∧ ∃ l2a' l2c' x y z, NumS w W bb B (.slice la xs.length lc) (.slice l2a ls.length l2c) (.slice l2a' (ls.length + 4) l2c') l3 wt rt ls (-7 - (q : Int)) x y z := by
  obtain ⟨i1, hi, hz0, hz1, hz2⟩ := info_parts info64
  have HI : Hid (Tryz.prog.info? 2 = some i1 ∧ i1.zero = some (.int .i64 0) ∧ i1.size = 1 ∧ i1.bytes = 8) := ⟨hi, hz0, hz1, hz2⟩
  clear hi hz0 hz1 hz2
  obtain ⟨i2, hi, hz0, hz1, hz2⟩ := info_parts infoNums
  have HI2 : Hid (Tryz.prog.info? 23 = some i2 ∧ i2.zero = some (.slice none 0 0) ∧ i2.size = 1 ∧ i2.bytes = 24) := ⟨hi, hz0, hz1, hz2⟩
  clear hi hz0 hz1 hz2
  obtain ⟨hx1, hx2⟩ := box_cells hbox
  have hdv : ((ls.length : Nat) : Int).tdiv 4 = (q : Int) := by rw [hq]; simp [Int.tdiv]
  have hw1 : wrap64 (q : Int) = q := by unfold wrap64; omega
  have hw2 : wrap64 (-7 - (q : Int)) = -7 - q := by unfold wrap64; omega
  clear hq
  go_enter Tryz.func27, Tryz.ntmps27
  simp only [bookCells] at hx1
  go_wp2_with fail
  have hbz : bb < w.heap.size := (Array.getElem?_eq_some_iff.1 hbox).1
  have HB0 : Hid (some bb ≠ (Value.slice la xs.length lc).ownBlock ∧ some bb ≠ (Value.slice l2a ls.length l2c).ownBlock ∧ ((Value.slice l2a ls.length l2c).ownBlock = none ∨ (Value.slice l2a ls.length l2c).ownBlock ≠ (Value.slice la xs.length lc).ownBlock)) := ⟨own_ne_bx hl hbox (by decide), own_ne_bx hr2 hbox (by decide), own_ne_ty hr2 hl (by decide)⟩
  have HL0 := (show Hid _ from hl)
  have HX := (show Hid _ from And.intro hbox hr2)
  clear hx1 hx2 hl hbox hr2
  go_loopw [5] (fun i wr => ∃ k : Nat, i = .int .i64 k ∧ k ≤ xs.length ∧ Hid (wr.ownsRow B 2 1 (.slice la xs.length lc) xs.length (marks k [.int .i64 (-7 - (q : Int))] ++ (xs.map (Value.int .i64)).drop k)) ∧ Hid (w.grownBy wr (Value.slice la xs.length lc).ownBlock)) (fun i _ => xs.length - (intOf i).toNat)
  case atStart => exact ⟨0, rfl, Nat.zero_le _, (by show World.ownsRow _ _ _ _ _ _ _; rw [marks_zero, List.nil_append, List.drop_zero]; exact HL0.out), ⟨rfl, rfl, rfl, Nat.le_refl _, fun _ _ _ => rfl⟩⟩
  case round =>
    obtain ⟨k, rfl, hk, HR, HG⟩ := hrel
    by_cases hlt : k < xs.length
    · have hki : (k : Int) < (xs.length : Int) := by omega
      obtain ⟨g, rfl⟩ : ∃ g, la = some ⟨g, 0, none⟩ := by
        rcases HR.out.2 with ⟨_, e⟩ | ⟨g, cap, cur, e, _⟩
        · omega
        · cases e; exact ⟨g, rfl⟩
      obtain ⟨cx, cf⟩ : (∃ u, wr.cell? ⟨g, k, none⟩ = some u) ∧ wr.frozen? ⟨g, k, none⟩ = false := by
        rcases HR.out.2 with ⟨e, _⟩ | ⟨g', cap, cur, e, _, hg, hc, _, hs, _⟩
        · cases e
        · cases e
          refine ⟨⟨cur[k]'(by omega), by simp [World.cell?, hg]⟩, by simp [World.frozen?, hg]⟩
      obtain ⟨u, cu⟩ := cx
      go_wp2_with fail
      obtain ⟨s1, s2⟩ := HR.out.stored k (.int .i64 (-7 - (q : Int)))
      rw [set_marks k xs.length _ _ (by simp; exact hlt)] at s1
      refine ⟨⟨k + 1, rfl, by omega, s1, HG.out.trans s2⟩, by simp only [intOf]; omega⟩
    · obtain rfl : k = xs.length := by omega
      have hki : ¬ ((xs.length : Int) < (xs.length : Int)) := by omega
      have hfin := HR.out
      rw [List.drop_eq_nil_of_le (by simp), List.append_nil] at hfin
      have hap : AP w wr B 2 xs.length [.int .i64 (-7 - (q : Int))] (.slice la xs.length lc) (.slice la xs.length lc) [.slice la xs.length lc] := by
        refine ⟨hfin, ?_, Or.inl rfl, Fr.of_grown HG.out (fun _ _ h => h)⟩
        intro v hv
        simp only [List.mem_singleton] at hv
        subst hv
        exact ⟨MkAt.of_own hfin, Nat.le_refl _, Or.inl rfl⟩
      have HA := (show Hid _ from hap)
      clear hfin HR hap HG HL0
      have b1 : xs.length + 1 ≤ maxLen := by unfold maxLen; omega
      have b2 : (xs.length + 1) * 8 ≤ 140737488355328 := by omega
      have b3 : xs.length + 1 + 1 ≤ maxLen := by unfold maxLen; omega
      have b4 : (xs.length + 1 + 1) * 8 ≤ 140737488355328 := by omega
      have b5 : xs.length + 1 + 1 + 1 ≤ maxLen := by unfold maxLen; omega
      have b6 : (xs.length + 1 + 1 + 1) * 8 ≤ 140737488355328 := by omega
      have b7 : ls.length + 4 ≤ maxLen := by unfold maxLen; omega
      have b8 : (ls.length + 4) * 24 ≤ 140737488355328 := by omega
      go_upto_region 8 with (first
        | (at_builtin; refine wpList_append_keep _ rfl (.tmp 26) (.tmp 28) 23 rfl B 2 i1 (.int .i64 0) 1 8 Tryz.underlying23 HI.out.1 HI.out.2.1 HI.out.2.2.1 HI.out.2.2.2 rfl (by decide) (.slice la xs.length lc) xs.length (marks xs.length [.int .i64 (-7 - (q : Int))]) rfl (HA.out.row.alloc _) ⟨wr.heap.size, 0, none⟩ 1 1 [.int .i64 (-7 - (q : Int))] rfl rfl (cell_one_new _ _ _) (by intro u hu; simp at hu; subst hu; rfl) b1 b2 (HA.out.base hB _) ?_; intro x W1 o1 k1 g1 n1; have hap1 := HA.out.step o1 k1 g1 n1; obtain ⟨xa, xc, rfl⟩ := sl_of_own o1; have HA1 := (show Hid _ from hap1); clear o1 k1 g1 n1 hap1)
        | (at_builtin; refine wpList_append_keep _ rfl (.tmp 30) (.tmp 32) 23 rfl B 2 i1 (.int .i64 0) 1 8 Tryz.underlying23 HI.out.1 HI.out.2.1 HI.out.2.2.1 HI.out.2.2.2 rfl (by decide) (.slice xa (xs.length + 1) xc) (xs.length + 1) (marks (xs.length + 1) [.int .i64 (-7 - (q : Int))]) rfl (HA1.out.row.alloc _) ⟨W1.heap.size, 0, none⟩ 1 1 [.int .i64 (-7 - (q : Int))] rfl rfl (cell_one_new _ _ _) (by intro u hu; simp at hu; subst hu; rfl) b3 b4 (HA1.out.base hB _) ?_; intro y W2 o1 k1 g1 n1; have hap1 := HA1.out.step o1 k1 g1 n1; obtain ⟨ya, yc, rfl⟩ := sl_of_own o1; have HA2 := (show Hid _ from hap1); clear o1 k1 g1 n1 hap1)
        | (at_builtin; refine wpList_append_keep _ rfl (.tmp 34) (.tmp 36) 23 rfl B 2 i1 (.int .i64 0) 1 8 Tryz.underlying23 HI.out.1 HI.out.2.1 HI.out.2.2.1 HI.out.2.2.2 rfl (by decide) (.slice ya (xs.length + 1 + 1) yc) (xs.length + 1 + 1) (marks (xs.length + 1 + 1) [.int .i64 (-7 - (q : Int))]) rfl (HA2.out.row.alloc _) ⟨W2.heap.size, 0, none⟩ 1 1 [.int .i64 (-7 - (q : Int))] rfl rfl (cell_one_new _ _ _) (by intro u hu; simp at hu; subst hu; rfl) b5 b6 (HA2.out.base hB _) ?_; intro z W3 o1 k1 g1 n1; have hap1 := HA2.out.step o1 k1 g1 n1; obtain ⟨za, zc, rfl⟩ := sl_of_own o1; have HA3 := (show Hid _ from hap1); clear o1 k1 g1 n1 hap1))
      have hbx3 : W3.heap[bb]? = some (.cells (bookCells (.slice l2a ls.length l2c) l3 wt rt) 32 (0, 0)) := (HA3.out.fr.block bb hbz HB0.out.1).trans HX.out.1
      have hr3 : W3.ownsRow B 23 1 (.slice l2a ls.length l2c) ls.length ls := HA3.out.fr.own HX.out.2 (fun k hk e => by
        rcases HB0.out.2.2 with h | h
        · rw [hk] at h; cases h
        · exact h (hk.trans e))
      obtain ⟨x1, x2⟩ := box_cells hbx3
      simp only [bookCells] at x1
      have HX3 := (show Hid _ from And.intro hbx3 hr3)
      clear hbx3 hr3
      have hB3 : B ≤ (W3.alloc (.cells #[.slice la xs.length lc, .slice xa (xs.length + 1) xc, .slice ya (xs.length + 1 + 1) yc, .slice za (xs.length + 1 + 1 + 1) zc] 23)).heap.size := HA3.out.base hB _
      go_wp2_with (at_builtin; refine wpList_append_own_at _ rfl (.tmp 42) (.tmp 47) 26 rfl B 23 i2 (.slice none 0 0) 1 24 Tryz.underlying26 HI2.out.1 HI2.out.2.1 HI2.out.2.2.1 HI2.out.2.2.2 rfl (by decide) (.slice l2a ls.length l2c) ls.length ls rfl (HX3.out.2.alloc _) ⟨W3.heap.size, 0, none⟩ 4 4 [.slice la xs.length lc, .slice xa (xs.length + 1) xc, .slice ya (xs.length + 1 + 1) yc, .slice za (xs.length + 1 + 1 + 1) zc] rfl rfl (cell_four _ _ _ _ _ _) (by intro u hu; simp at hu; rcases hu with rfl | rfl | rfl | rfl <;> rfl) b7 b8 hB3 ?_; intro l2' W5 o5 g5 _ n5; obtain ⟨l2a', l2c', rfl⟩ := sl_of_own o5; have hga := (World.grownBy_alloc W3 (.cells #[.slice la xs.length lc, .slice xa (xs.length + 1) xc, .slice ya (xs.length + 1 + 1) yc, .slice za (xs.length + 1 + 1 + 1) zc] 23) _).trans g5; have hz3 := HA3.out.fr.size; obtain ⟨y1, y2⟩ := box_cells ((hga.block bb (by omega) HB0.out.2.1).trans HX3.out.1); simp only [bookCells] at y1)
      go_end0

      refine ⟨rfl, l2a', l2c', .slice xa (xs.length + 1) xc, .slice ya (xs.length + 1 + 1) yc, .slice za (xs.length + 1 + 1 + 1) zc, ?_⟩
      exact num_done HA3.out HX3.out.1 HX3.out.2 HB0.out.2.1 hbz hga o5 n5
end Go.Proofs.YtnmgdcmeomkocaaGreatDoor
namespace Go.Proofs.YtnmgdcmeomkocaaGreatDoor
set_option linter.unusedVariables false
set_option linter.unusedSimpArgs false
open Go.RowKit Go.Proofs Go.Maps

abbrev pt64 (i : Nat) : List Value := [.int .i64 (-7 - ((i / 4 : Nat) : Int))]
abbrev ptSt (i : Nat) : List Value := [.int .i64 (-7 - ((i / 4 : Nat) : Int)), .slice none 0 0]
structure BK (W : World) (bb B : Nat) (l2 l3 wt rt : Value) (ls l3s : List Value) : Prop where
  box : W.heap[bb]? = some (.cells (bookCells l2 l3 wt rt) 32 (0, 0))
  r2 : W.ownsRow B 23 1 l2 ls.length ls
  r3 : W.ownsRow B 41 1 l3 l3s.length l3s
  m2 : ∀ i v, ls[i]? = some v → MkAt W 2 (pt64 i) v
  m3 : ∀ i v, l3s[i]? = some v → MkAt W 77 (ptSt i) v
  base : B ≤ W.heap.size
theorem BK.lt {W : World} {bb B : Nat} {l2 l3 wt rt : Value} {ls l3s : List Value} (h : BK W bb B l2 l3 wt rt ls l3s) : bb < W.heap.size := (Array.getElem?_eq_some_iff.1 h.box).1
theorem BK.below {W W' : World} {bb B : Nat} {l2 l3 wt rt : Value} {ls l3s : List Value} (h : BK W bb B l2 l3 wt rt ls l3s) (hb : Below W.heap.size W W') : BK W' bb B l2 l3 wt rt ls l3s :=
  ⟨(hb.block _ h.lt).trans h.box, own_of_below h.r2 hb, own_of_below h.r3 hb, fun i v hv => (h.m2 i v hv).of_block (fun k hk => hb.block k ((h.m2 i v hv).lt k hk)), fun i v hv => (h.m3 i v hv).of_block (fun k hk => hb.block k ((h.m3 i v hv).lt k hk)), Nat.le_trans h.base hb.size⟩
theorem own_ty {w : World} {B e size n k t : Nat} {v : Value} {xs : List Value} {cur : Array Value} (h : w.ownsRow B e size v n xs) (hk : w.heap[k]? = some (.cells cur t (0, 0))) (ht : t ≠ e) : some k ≠ v.ownBlock := by
  intro e0
  obtain ⟨c1, f1, h1⟩ := own_cells h k e0.symm
  rw [h1] at hk
  simp at hk
  exact ht hk.2.1.symm
theorem own_tyof {w : World} {B e size n k : Nat} {v : Value} {xs : List Value} (h : w.ownsRow B e size v n xs) (hk : v.ownBlock = some k) : ∃ cur, w.heap[k]? = some (.cells cur e (0, 0)) := by
  rcases h.2 with ⟨rfl, _⟩ | ⟨g, cap, cur, rfl, _, hg, _⟩
  · cases hk
  · cases hk; exact ⟨cur, hg⟩
theorem NumS.keep {w W : World} {bb B n k t : Nat} {lv l2 l2' l3 wt rt x y z : Value} {ls xs : List Value} {mk : Int} {cs cur : Array Value} (h : NumS w W bb B lv l2 l2' l3 wt rt ls mk x y z) (hb : w.heap[bb]? = some (.cells cs 32 (0, 0))) (hr : w.ownsRow B 23 1 l2 ls.length ls) (hl : w.ownsRow B 2 1 lv n xs) (hk : w.heap[k]? = some (.cells cur t (0, 0))) (h1 : t ≠ 32) (h2 : t ≠ 23) (h3 : t ≠ 2 ∨ some k ≠ lv.ownBlock) : W.heap[k]? = w.heap[k]? := by
  refine h.fr.block k (Array.getElem?_eq_some_iff.1 hk).1 ⟨?_, ?_, own_ty hr hk h2⟩
  · intro e
    subst e
    rw [hb] at hk
    simp at hk
    exact h1 hk.2.symm
  · rcases h3 with h3 | h3
    · exact own_ty hl hk h3
    · exact h3
theorem own_by {w W : World} {B e size n : Nat} {v : Value} {xs : List Value} (ho : w.ownsRow B e size v n xs) (hk : ∀ k cur, v.ownBlock = some k → w.heap[k]? = some (.cells cur e (0, 0)) → W.heap[k]? = w.heap[k]?) : W.ownsRow B e size v n xs := by
  refine ⟨ho.1, ?_⟩
  rcases ho.2 with e0 | ⟨g, cap, cur, e1, c1, c2, c3⟩
  · exact Or.inl e0
  · subst e1
    exact Or.inr ⟨g, cap, cur, rfl, c1, (hk g cur rfl c2).trans c2, c3⟩
theorem BK.num {w W : World} {bb B n q : Nat} {lv l2 l2' l3 wt rt x y z : Value} {ls l3s xs : List Value} (h : BK w bb B l2 l3 wt rt ls l3s) (hq : ls.length = 4 * q) (hl : w.ownsRow B 2 1 lv n xs) (hN : NumS w W bb B lv l2 l2' l3 wt rt ls (-7 - (q : Int)) x y z) (hd : ∀ v ∈ ls, ∀ k, v.ownBlock = some k → some k ≠ lv.ownBlock) : BK W bb B l2' l3 wt rt (ls ++ [lv, x, y, z]) l3s := by
  refine ⟨hN.box, ?_, ?_, ?_, ?_, Nat.le_trans h.base hN.fr.size⟩
  · rw [List.length_append]; exact hN.row
  · exact own_by h.r3 (fun k cur hk hc => hN.keep h.box h.r2 hl hc (by decide) (by decide) (Or.inl (by decide)))
  · intro i v hv
    by_cases hi : i < ls.length
    · rw [List.getElem?_append_left hi] at hv
      have hm := h.m2 i v hv
      refine hm.of_block (fun k hk => ?_)
      obtain ⟨cur, hc⟩ := hm.ty k hk
      exact hN.keep h.box h.r2 hl hc (by decide) (by decide) (Or.inr (hd v (List.mem_of_getElem? hv) k hk))
    · rw [List.getElem?_append_right (by omega)] at hv
      have h4 : i - ls.length < 4 := by have := (List.getElem?_eq_some_iff.1 hv).1; simpa using this
      have hiq : i / 4 = q := by omega
      unfold pt64
      rw [hiq]
      exact (hN.mks v (List.mem_of_getElem? hv)).1
  · intro i v hv
    have hm := h.m3 i v hv
    refine hm.of_block (fun k hk => ?_)
    obtain ⟨cur, hc⟩ := hm.ty k hk
    exact hN.keep h.box h.r2 hl hc (by decide) (by decide) (Or.inl (by decide))
theorem num_any {w : World} {bb B q : Nat} {la l2a : Option Addr} {lc l2c : Nat} {xs : List Int} {l3 wt rt : Value} {ls l3s : List Value} (h : BK w bb B (.slice l2a ls.length l2c) l3 wt rt ls l3s) (hq : ls.length = 4 * q) (hL : ls.length ≤ 100000) (hl : w.ownsRow B 2 1 (.slice la xs.length lc) xs.length (xs.map (Value.int .i64))) (hn : xs.length ≤ 4000) (hd : ∀ v ∈ ls, ∀ k, v.ownBlock = some k → some k ≠ (Value.slice la xs.length lc).ownBlock) :
    Calls Tryz.prog 27 #[.pointer (some ⟨bb, 0, none⟩), .slice la xs.length lc] w fun e W => e = .returned (.tuple #[]) ∧ ∃ l2a' l2c' ls', ls'.length = ls.length + 4 ∧ BK W bb B (.slice l2a' ls'.length l2c') l3 wt rt ls' l3s ∧ (∀ v ∈ ls', v ∈ ls ∨ v.ownBlock = (Value.slice la xs.length lc).ownBlock ∨ ∃ k, v.ownBlock = some k ∧ w.heap.size ≤ k) ∧ ((Value.slice l2a' ls'.length l2c').ownBlock = (Value.slice l2a ls.length l2c).ownBlock ∨ ∃ k, (Value.slice l2a' ls'.length l2c').ownBlock = some k ∧ w.heap.size ≤ k) ∧ Fr (fun k => k ≠ bb ∧ some k ≠ (Value.slice la xs.length lc).ownBlock ∧ some k ≠ (Value.slice l2a ls.length l2c).ownBlock) w W := by
  refine Calls.mono (numbers_any bb B q la l2a lc l2c xs l3 wt rt ls w h.box h.r2 hl h.base hn hL hq) ?_
  rintro e W ⟨rfl, l2a', l2c', x, y, z, hN⟩
  have hbk := h.num hq hl hN hd
  have hlen : (ls ++ [Value.slice la xs.length lc, x, y, z]).length = ls.length + 4 := by simp
  rw [← hlen] at hbk
  refine ⟨rfl, l2a', l2c', ls ++ [.slice la xs.length lc, x, y, z], hlen, hbk, ?_, ?_, hN.fr⟩
  · intro v hv
    rcases List.mem_append.1 hv with hv | hv
    · exact Or.inl hv
    · exact Or.inr (hN.mks v hv).2
  · rw [hlen]; exact hN.new
end Go.Proofs.YtnmgdcmeomkocaaGreatDoor
