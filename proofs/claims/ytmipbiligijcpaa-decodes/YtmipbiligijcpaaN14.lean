/- The program's reader: the closure of nodes, lists of nodes. -/
import Derived.Test.YtmipbiligijcpaaN13
namespace Go.Proofs.Ytmipbiligijcpaa
set_option linter.unusedVariables false
set_option linter.unusedSimpArgs false
open Go.RowKit Go.Proofs Go.Maps

set_option maxHeartbeats 1000000 in
theorem pcert1_any (xb sb rb : Nat) (p g : Int) (hs : sb ≠ rb) (hx : xb ≠ rb) (W : World) (s : ByteArray) (bad : Bool) (hI : InvE sb xb rb p g W) (h : Rdr W rb s bad) (hsz : s.size ≤ 60000) :
    Calls Try.prog 58 #[.pointer (some ⟨xb, 0, none⟩), .pointer (some ⟨sb, 0, none⟩)] W fun e W' => NdR W W' rb s (ifG bad (rnode p g) s) e ∧ Fr (fun j => j ≠ rb) W W' := by
  have hsl := (Array.getElem?_eq_some_iff.1 hI.1).1
  have hxl := (Array.getElem?_eq_some_iff.1 hI.2).1
  have hrl := h.lt
  have HI := (show Hid _ from And.intro hI h)
  clear hI h
  go_enter Try.func58, Try.ntmps58
  go_upto_region 1 with (fail)
  obtain ⟨V0, hV0⟩ : ∃ V, V = (W.alloc (.cells #[.slice none 0 0, .slice none 0 0, .bool false, .int .i64 0, .slice none 0 0] 50)) := ⟨_, rfl⟩
  rw [← hV0]
  have hb0 : Below W.heap.size W V0 := by rw [hV0]; exact below1 _ _
  have q0 := (hb0.block sb hsl).trans HI.out.1.1
  have q1 := (hb0.block xb hxl).trans HI.out.1.2
  have q2 : V0.heap[W.heap.size]? = some (.cells #[.slice none 0 0, .slice none 0 0, .bool false, .int .i64 0, .slice none 0 0] 50 (0, 0)) := by rw [hV0]; exact heap_alloc_new _ _
  have hz0 : V0.heap.size = W.heap.size + 1 := by rw [hV0]; simp
  have hr0 : Rdr V0 rb s bad := by rw [hV0]; exact HI.out.2.alloc _
  have hc := prnode_any rb p g s bad V0 hr0 hsz
  have HV := (show Hid _ from And.intro hc (And.intro q2 hb0))
  obtain ⟨x1, x2⟩ := box_cells q0
  obtain ⟨y1, y2⟩ := box_cells q1
  clear q0 q1 q2 hr0 hb0 hV0 hc
  go_wp2_with fail
  refine Calls.mono HV.out.1 ?_
  rintro e W1 ⟨h1, f1⟩
  obtain ⟨x, rfl⟩ := ndr_val h1
  have k2 := f1.box HV.out.2.1 (by show _ ≠ _; omega)
  have H1 := (show Hid _ from And.intro h1 f1)
  clear x1 x2 y1 y2 h1 f1
  obtain ⟨x1, x2⟩ := box_cells k2
  clear k2
  simp only [n5V]
  go_wp2_with fail
  refine bodyPost_ret (v := n5V x) (by simp [results, Try.results58, go_sem, x1, n5V]) rfl ?_
  have fa := fr5 W1 W.heap.size (.slice x.fa x.n.facts.length x.fc) (.slice x.ra x.n.ranks.length x.rc) (.bool x.n.reached) (.int .i64 x.n.rank) (.slice x.va x.n.vals.length x.vc)
  refine ⟨H1.out.1.up (by omega) fa (fun j hj => by show j ≠ _; omega) (by show rb ≠ _; omega) (Nat.le_refl _) rfl, ?_⟩
  exact Fr.trans (Fr.trans (Fr.of_below HV.out.2.2) H1.out.2 (fun _ _ h => h)) fa (fun j h1 h2 => by show j ≠ _; omega)
def n5z : N5 := ⟨none, 0, none, 0, none, 0, nd0b⟩
theorem nRow_append (a b : List N5) : nRow (a ++ b) = nRow a ++ nRow b := by simp [nRow]
theorem nRow_at' (vs : List N5) (k j : Nat) (v : N5) (h : vs[k]? = some v) (hj : j < 5) : (nRow vs)[k * 5 + j]? = (nCells v)[j]? := by
  have h1 : (nCells v)[j]? = some ((nCells v)[j]'(by simp [nCells]; omega)) := List.getElem?_eq_getElem _
  rw [h1]
  exact nRow_at _ k v h j _ h1
theorem made_nodes (n : Nat) : (madeCells (Value.agg #[.slice none 0 0, .slice none 0 0, .bool false, .int .i64 0, .slice none 0 0]).cells (n * 5)).toList = nRow (List.replicate n n5z) := by
  rw [show (Value.agg #[.slice none 0 0, .slice none 0 0, .bool false, .int .i64 0, .slice none 0 0]).cells = #[.slice none 0 0, .slice none 0 0, .bool false, .int .i64 0, .slice none 0 0] from rfl]
  apply List.ext_getElem?
  intro j
  by_cases hj : j < n * 5
  · have h1 : (nRow (List.replicate n n5z))[j / 5 * 5 + j % 5]? = (nCells n5z)[j % 5]? := nRow_at' _ (j / 5) (j % 5) n5z (by rw [List.getElem?_replicate, if_pos (by omega)]) (by omega)
    rw [show j / 5 * 5 + j % 5 = j by omega] at h1
    rw [h1]
    have h6 : j % 5 < 5 := Nat.mod_lt _ (by omega)
    simp only [madeCells, Array.toList_map, Array.toList_range, List.getElem?_map, List.getElem?_range hj, Option.map_some]
    show some #[Value.slice none 0 0, .slice none 0 0, .bool false, .int .i64 0, .slice none 0 0][j % 5]! = _
    generalize j % 5 = r at h6
    have : r = 0 ∨ r = 1 ∨ r = 2 ∨ r = 3 ∨ r = 4 := by omega
    rcases this with rfl | rfl | rfl | rfl | rfl <;> rfl
  · rw [List.getElem?_eq_none (by simp [madeCells]; omega), List.getElem?_eq_none (by rw [nRow_len]; simp; omega)]
theorem fill_n (xs : List N5) (n k : Nat) (x : N5) (hk : xs.length = k) (hn : k < n) :
    (((((nRow (xs ++ List.replicate (n - k) n5z)).set (k * 5) (.slice x.fa x.n.facts.length x.fc)).set (k * 5 + 1) (.slice x.ra x.n.ranks.length x.rc)).set (k * 5 + 2) (.bool x.n.reached)).set (k * 5 + 3) (.int .i64 x.n.rank)).set (k * 5 + 4) (.slice x.va x.n.vals.length x.vc) = nRow ((xs ++ [x]) ++ List.replicate (n - (k + 1)) n5z) := by
  have hl := nRow_len xs
  rw [hk] at hl
  rw [show n - k = (n - (k + 1)) + 1 by omega, List.replicate_succ]
  simp only [nRow_append, List.append_assoc]
  rw [show nRow (n5z :: List.replicate (n - (k + 1)) n5z) = nCells n5z ++ nRow (List.replicate (n - (k + 1)) n5z) from rfl, show nRow [x] = nCells x by simp [nRow]]
  generalize nRow (List.replicate (n - (k + 1)) n5z) = r
  generalize nRow xs = a at hl
  generalize k * 5 = m at hl
  have e0 : ∀ (l : List Value) (y : Value), (a ++ l).set m y = a ++ l.set 0 y := fun l y => set_mid a l m 0 y hl
  rw [e0, set_mid _ _ _ _ _ hl, set_mid _ _ _ _ _ hl, set_mid _ _ _ _ _ hl, set_mid _ _ _ _ _ hl]
  rfl
theorem zero_n (xs : List N5) (n k j : Nat) (hk : xs.length = k) (hn : k < n) (hj : j < 5) : (nRow (xs ++ List.replicate (n - k) n5z))[k * 5 + j]? = (nCells n5z)[j]? := by
  exact nRow_at' _ k j n5z (by rw [List.getElem?_append_right (by omega), hk, Nat.sub_self, List.getElem?_replicate, if_pos (by omega)]) hj
/-- the blocks of its lists -/
def blks (x : N5) : List Nat := [x.fv.ownBlock, x.rv.ownBlock, x.vv.ownBlock].filterMap id
/-- nodes that share no block -/
def ApL (cl : List N5) : Prop := cl.Pairwise (fun a b => ∀ i ∈ blks a, ∀ j ∈ blks b, i < j)
theorem NvOk.blks {W : World} {B : Nat} {x : N5} (h : NvOk W B x) : ∀ i ∈ blks x, B ≤ i ∧ i < W.heap.size := by
  intro i hi
  simp only [Go.Proofs.Ytmipbiligijcpaa.blks, List.mem_filterMap, id, List.mem_cons, List.not_mem_nil, or_false] at hi
  obtain ⟨a, ha, hb⟩ := hi
  subst hb
  rcases ha with ha | ha | ha
  · exact h.f.lt i ha.symm
  · exact h.r.lt i ha.symm
  · exact h.v.lt i ha.symm
theorem NvOk.grown {W W' : World} {B k : Nat} {x : N5} (h : NvOk W B x) (hg : W.grownBy W' (some k)) (hk : ∃ cur f, W.heap[k]? = some (.cells cur 50 f)) : NvOk W' B x :=
  ⟨h.f.kept hg (row_ne h.f (fun j hj => by cases hj; exact hk) (by decide)), h.r.kept hg (row_ne h.r (fun j hj => by cases hj; exact hk) (by decide)), h.v.kept hg (row_ne h.v (fun j hj => by cases hj; exact hk) (by decide)), h.ap⟩
theorem nodes_more {w wr W2 W3 : World} {n cap k : Nat} {xs : List N5} {x : N5} {P : Nat → Prop} {ys : List Value} (h : (∀ c ∈ xs, NvOk wr w.heap.size c) ∧ ApL xs) (hx : NvOk W2 wr.heap.size x) (hf : Fr P wr W2) (hw : w.heap.size ≤ wr.heap.size) (hP : ∀ j, w.heap.size ≤ j → P j) (hg : W2.grownBy W3 (some k)) (hrow : W2.ownsRow w.heap.size 50 5 (.slice (some ⟨k, 0, none⟩) n cap) n ys) :
    (∀ c ∈ xs ++ [x], NvOk W3 w.heap.size c) ∧ ApL (xs ++ [x]) := by
  have hk := own_cells hrow k rfl
  constructor
  · intro c hc
    rcases List.mem_append.1 hc with hc | hc
    · exact ((h.1 c hc).fr hf hP (Nat.le_refl _)).grown hg hk
    · simp at hc
      subst hc
      have := hx.grown hg hk
      exact ⟨own_mono this.f hw, own_mono this.r hw, own_mono this.v hw, this.ap⟩
  · unfold ApL
    rw [List.pairwise_append]
    refine ⟨h.2, List.pairwise_singleton _ _, ?_⟩
    intro a ha b hb i hi j hj
    simp at hb
    subst hb
    have h1 := (h.1 a ha).blks i hi
    have h2 := hx.blks j hj
    omega
/-- what reading a list of nodes answers -/
def ListN (w W' : World) (rb n : Nat) (s : ByteArray) (bad : Bool) (p g : Int) (e : Ending) : Prop :=
  ((∃ (cl : List N5) (s' : ByteArray) (la : Option Addr) (lc : Nat), ifG bad (rlist (stepN p g) n ()) s = some ((cl.map N5.n, ()), s'.data.toList) ∧ s'.size ≤ s.size ∧ e = .returned (.slice la n lc) ∧ (la = none → lc = 0) ∧ W'.ownsRow w.heap.size 50 5 (.slice la n lc) n (nRow cl) ∧ (∀ c ∈ cl, NvOk W' w.heap.size c) ∧ ApL cl ∧ Rdr W' rb s' false) ∨
   ((bad = true ∨ ifG bad (rlist (stepN p g) n ()) s = none) ∧ e = .returned (.slice none 0 0) ∧ ∃ s', s'.size ≤ s.size ∧ Rdr W' rb s' true))
set_option maxHeartbeats 2000000 in
set_option maxRecDepth 100000 in
theorem plistN_any (p g : Int) (xb sb rb n : Nat) (s : ByteArray) (bad : Bool) (w : World) (hsb : sb ≠ rb) (hxb : xb ≠ rb) (h : Rdr w rb s bad) (hi : InvE sb xb rb p g w) (hs : s.size ≤ 60000) (hn : n ≤ 100000000) :
    Calls Try.prog 56 #[.pointer (some ⟨rb, 0, none⟩), .int .i64 (n : Int), .func (.func 58) #[] #[.pointer (some ⟨xb, 0, none⟩), .pointer (some ⟨sb, 0, none⟩)]] w fun e W' =>
      ListN w W' rb n s bad p g e ∧ Fr (fun j => j ≠ rb) w W' := by
  have hlt : rb < w.heap.size := (Array.getElem?_eq_some_iff.1 h).1
  have hsl := (Array.getElem?_eq_some_iff.1 hi.1).1
  have hxl := (Array.getElem?_eq_some_iff.1 hi.2).1
  have HH := (show Hid _ from And.intro h hi)
  clear h hi
  by_cases h0 : n = 0
  · subst h0
    go_enter Try.func56, Try.ntmps56
    go_wp2_with fail
    go_ret
    refine ⟨?_, Fr.refl _ _⟩
    cases bad with
    | false => exact Or.inl ⟨[], s, none, 0, rfl, Nat.le_refl _, rfl, fun _ => rfl, World.ownsRow_nil _ _ _ _, (fun c hc => by cases hc), List.Pairwise.nil, HH.out.1⟩
    | true => exact Or.inr ⟨Or.inl rfl, rfl, s, Nat.le_refl _, HH.out.1⟩
  · obtain ⟨i1, hi, hz0, hz1, hz2⟩ := info_parts infoNd
    have HI := (show Hid _ from And.intro hi (And.intro hz0 (And.intro hz1 hz2)))
    clear hi hz0 hz1 hz2
    have hn0 : ((n : Int) == 0) = false := by rw [beq_eq_false_iff_ne]; omega
    go_enter Try.func56, Try.ntmps56
    go_wp2_with (at_make; refine wpList_make_full _ rfl (.tmp 11) (.tmp 11) 22 rfl w.heap.size 50 i1 (.agg #[.slice none 0 0, .slice none 0 0, .bool false, .int .i64 0, .slice none 0 0]) 5 Try.underlying22 HI.out.1 HI.out.2.1 HI.out.2.2.1 .i64 .i64 n n n rfl rfl rfl rfl (by rw [HI.out.2.2.2]; omega) (by unfold maxLen; omega) (by simp) ?_; intro W1 hown1 hgrow1; have H1 := (show Hid _ from And.intro hown1 hgrow1); clear hown1 hgrow1)
    have HM : Hid (W1.ownsRow w.heap.size 50 5 (.slice (some ⟨w.heap.size, 0, none⟩) n n) n (nRow (([] : List N5) ++ List.replicate (n - 0) n5z)) ∧ Rdr W1 rb s bad ∧ InvE sb xb rb p g W1 ∧ Fr (fun j => j ≠ rb) w W1) := by
      obtain ⟨h1, g1⟩ := H1.out
      rw [made_nodes] at h1
      refine ⟨by simpa using h1, HH.out.1.grown g1 (by simp), ⟨(g1.block _ hsl (by simp)).trans HH.out.2.1, (g1.block _ hxl (by simp)).trans HH.out.2.2⟩, Fr.of_grown g1 (fun k _ _ => by simp)⟩
    clear H1
    go_loopw [15] (fun iv wr => ∃ (k : Nat) (xs : List N5) (s2 : ByteArray), k ≤ n ∧ iv = .int .i64 k ∧ s2.size ≤ s.size ∧ Hid (xs.length = k) ∧ Hid (rlist (stepN p g) k () s.data.toList = some ((xs.map N5.n, ()), s2.data.toList) ∧ (0 < k → bad = false)) ∧ Hid (wr.ownsRow w.heap.size 50 5 (.slice (some ⟨w.heap.size, 0, none⟩) n n) n (nRow (xs ++ List.replicate (n - k) n5z)) ∧ Rdr wr rb s2 (if k = 0 then bad else false) ∧ InvE sb xb rb p g wr ∧ Fr (fun j => j ≠ rb) w wr) ∧ Hid ((∀ c ∈ xs, NvOk wr w.heap.size c) ∧ ApL xs)) (fun iv _ => n - (intOf iv).toNat)
    case atStart => exact ⟨0, [], s, Nat.zero_le _, rfl, Nat.le_refl _, rfl, ⟨rfl, (fun h => by omega)⟩, ⟨HM.out.1, HM.out.2.1, HM.out.2.2.1, HM.out.2.2.2⟩, (fun c hc => by cases hc), List.Pairwise.nil⟩
    case round =>
      clear HM
      obtain ⟨k, xs, s2, hk, rfl, hs2, HX, HL, HW, HV⟩ := hrel
      by_cases hlt : k < n
      · have hlti : (k : Int) < (n : Int) := by omega
        have hc := pcert1_any xb sb rb p g hsb hxb wr s2 (if k = 0 then bad else false) HW.out.2.2.1 HW.out.2.1 (by omega)
        have HC := (show Hid _ from hc)
        clear hc
        go_wp2_with fail
        refine Calls.mono HC.out ?_
        rintro e W2 ⟨h2, f2⟩
        have hrow := f2.own HW.out.1 (fun q hq => by simp [Value.ownBlock] at hq; subst hq; show _ ≠ _; omega)
        have hf := HW.out.2.2.2.trans f2 (fun q _ hq => hq)
        have hws := HW.out.2.2.2.size
        have hinv3 : InvE sb xb rb p g W2 := ⟨f2.box HW.out.2.2.1.1 hsb, f2.box HW.out.2.2.1.2 hxb⟩
        have hfz2 := f2.size
        rcases h2 with ⟨x, s3, hres, hsz, rfl, hvo, hr⟩ | ⟨hres, x, s3, rfl, hsz, hr⟩
        · simp only [n5V]
          have hst0 := hrow.stored (k * 5) (.slice x.fa x.n.facts.length x.fc)
          have hst1 := hst0.1.stored (k * 5 + 1) (.slice x.ra x.n.ranks.length x.rc)
          have hst2 := hst1.1.stored (k * 5 + 2) (.bool x.n.reached)
          have hst3 := hst2.1.stored (k * 5 + 3) (.int .i64 x.n.rank)
          have hst4 := hst3.1.stored (k * 5 + 4) (.slice x.va x.n.vals.length x.vc)
          have hst := And.intro hst4.1 ((((hst0.2.trans hst1.2).trans hst2.2).trans hst3.2).trans hst4.2)
          clear hst0 hst1 hst2 hst3 hst4
          rw [fill_n xs n k x HX.out hlt] at hst
          have hk1 : W2.cell? ⟨w.heap.size, k * 5, none⟩ = some (.slice none 0 0) := (hrow.cellAt (k * 5 + 0) (by omega)).trans (zero_n xs n k 0 HX.out hlt (by omega))
          have hk2 : W2.cell? ⟨w.heap.size, k * 5 + 1, none⟩ = some (.slice none 0 0) := (hrow.cellAt (k * 5 + 1) (by omega)).trans (zero_n xs n k 1 HX.out hlt (by omega))
          have hk3 : W2.cell? ⟨w.heap.size, k * 5 + 2, none⟩ = some (.bool false) := (hrow.cellAt (k * 5 + 2) (by omega)).trans (zero_n xs n k 2 HX.out hlt (by omega))
          have hk4 : W2.cell? ⟨w.heap.size, k * 5 + 3, none⟩ = some (.int .i64 0) := (hrow.cellAt (k * 5 + 3) (by omega)).trans (zero_n xs n k 3 HX.out hlt (by omega))
          have hk5 : W2.cell? ⟨w.heap.size, k * 5 + 4, none⟩ = some (.slice none 0 0) := (hrow.cellAt (k * 5 + 4) (by omega)).trans (zero_n xs n k 4 HX.out hlt (by omega))
          have hfz := hrow.frozenAt
          have hrs := hr.grown hst.2 (by simp; omega)
          have hi3 := (show InvE sb xb rb p g _ from ⟨(hst.2.block sb (by omega) (by simp; omega)).trans hinv3.1, (hst.2.block xb (by omega) (by simp; omega)).trans hinv3.2⟩)
          have hvs := (show (∀ c ∈ xs ++ [x], NvOk _ w.heap.size c) ∧ ApL (xs ++ [x]) from nodes_more HV.out hvo f2 hws (fun j => by show _ → _ ≠ _; omega) hst.2 hrow)
          have hff := hf.grown hst.2 (fun q hq _ => by simp; omega)
          obtain ⟨x1, x2⟩ := box_cells hrs
          have hstep : (if k = 0 then bad else false) = false ∧ stepN p g () s2.data.toList = some ((x.n, ()), s3.data.toList) := by
            generalize (if k = 0 then bad else false) = bb at hres
            obtain ⟨h1, h2⟩ := ifG_some hres
            exact ⟨h1, by unfold stepN; rw [h2]⟩
          have H2 := (show Hid _ from And.intro hstep (And.intro hst.1 (And.intro hrs (And.intro hi3 (And.intro hff hvs)))))
          clear hstep hst hrs hi3 hff hres hr hinv3 hrow hf f2 hvs hvo
          go_wp2_with fail
          refine ⟨⟨k + 1, xs ++ [x], s3, by omega, by go_num, by omega, by show _ = _; rw [List.length_append, HX.out]; rfl, ⟨?_, fun _ => ?_⟩, ⟨H2.out.2.1, ?_, H2.out.2.2.2.1, H2.out.2.2.2.2.1⟩, H2.out.2.2.2.2.2⟩, by simp [intOf]; omega⟩
          · rw [rlist_snoc, HL.out.1]
            simp only
            rw [H2.out.1.2, List.map_append]
            rfl
          · by_cases hk0 : k = 0
            · have := H2.out.1.1
              rwa [if_pos hk0] at this
            · exact HL.out.2 (by omega)
          · rw [if_neg (by omega)]
            exact H2.out.2.2.1
        · simp only [n5V]
          have hst0 := hrow.stored (k * 5) (.slice x.fa x.n.facts.length x.fc)
          have hst1 := hst0.1.stored (k * 5 + 1) (.slice x.ra x.n.ranks.length x.rc)
          have hst2 := hst1.1.stored (k * 5 + 2) (.bool x.n.reached)
          have hst3 := hst2.1.stored (k * 5 + 3) (.int .i64 x.n.rank)
          have hst4 := hst3.1.stored (k * 5 + 4) (.slice x.va x.n.vals.length x.vc)
          have hst := And.intro hst4.1 ((((hst0.2.trans hst1.2).trans hst2.2).trans hst3.2).trans hst4.2)
          clear hst0 hst1 hst2 hst3 hst4
          have hk1 : W2.cell? ⟨w.heap.size, k * 5, none⟩ = some (.slice none 0 0) := (hrow.cellAt (k * 5 + 0) (by omega)).trans (zero_n xs n k 0 HX.out hlt (by omega))
          have hk2 : W2.cell? ⟨w.heap.size, k * 5 + 1, none⟩ = some (.slice none 0 0) := (hrow.cellAt (k * 5 + 1) (by omega)).trans (zero_n xs n k 1 HX.out hlt (by omega))
          have hk3 : W2.cell? ⟨w.heap.size, k * 5 + 2, none⟩ = some (.bool false) := (hrow.cellAt (k * 5 + 2) (by omega)).trans (zero_n xs n k 2 HX.out hlt (by omega))
          have hk4 : W2.cell? ⟨w.heap.size, k * 5 + 3, none⟩ = some (.int .i64 0) := (hrow.cellAt (k * 5 + 3) (by omega)).trans (zero_n xs n k 3 HX.out hlt (by omega))
          have hk5 : W2.cell? ⟨w.heap.size, k * 5 + 4, none⟩ = some (.slice none 0 0) := (hrow.cellAt (k * 5 + 4) (by omega)).trans (zero_n xs n k 4 HX.out hlt (by omega))
          have hfz := hrow.frozenAt
          have hrs := hr.grown hst.2 (by simp; omega)
          have hff := hf.grown hst.2 (fun q hq _ => by simp; omega)
          obtain ⟨x1, x2⟩ := box_cells hrs
          have hnone : ifG bad (rlist (stepN p g) n ()) s = none := by
            unfold ifG
            cases hbad : bad with
            | true => rfl
            | false =>
              simp only [Bool.false_eq_true, if_false]
              have hstep : stepN p g () s2.data.toList = none := by
                rw [hbad] at hres
                rcases ifG_none hres with h | ⟨_, h⟩
                · simp at h
                · unfold stepN; rw [h]
              refine rlist_none (stepN p g) (k := k + 1) ?_ (by omega)
              rw [rlist_snoc, HL.out.1]
              simp only
              rw [hstep]
          have H2 := (show Hid _ from And.intro hnone (And.intro hrs hff))
          clear hnone hst hrs hff hres hr hinv3 hrow hf f2
          go_wp2_with fail
          go_ret
          exact ⟨Or.inr ⟨Or.inr H2.out.1, rfl, s3, by omega, H2.out.2.1⟩, H2.out.2.2⟩
      · obtain rfl : k = n := by omega
        have hlti : ¬ (k : Int) < (k : Int) := by omega
        have HE : Hid (ifG bad (rlist (stepN p g) k ()) s = some ((xs.map N5.n, ()), s2.data.toList)) := by
          show _ = _
          rw [HL.out.2 (by omega)]
          exact HL.out.1
        go_wp2_with fail
        go_ret
        refine ⟨Or.inl ⟨xs, s2, some ⟨w.heap.size, 0, none⟩, k, HE.out, hs2, rfl, (fun h => by cases h), ?_, HV.out.1, HV.out.2, ?_⟩, HW.out.2.2.2⟩
        · have := HW.out.1
          simpa using this
        · have := HW.out.2.1
          rwa [if_neg h0] at this
end Go.Proofs.Ytmipbiligijcpaa
