/- The document's reader: nodes, the walk. -/
import Derived.Test.YtmipbiligijcpaaF5
namespace Go.Proofs.Ytmipbiligijcpaa
set_option linter.unusedVariables false
set_option linter.unusedSimpArgs false
open Go.RowKit Go.Proofs Go.Maps

def nz5 : N5 := ⟨none, 0, none, 0, none, 0, nd0b⟩
theorem NSt.start {w : World} {rb a : Nat} {s : ByteArray} {bad : Bool} (p g : Int) (na : Option Addr) (nl nc : Nat) (h : DRd w rb s a bad) : NSt (((w.alloc (.cells #[.int .i64 p, .int .i64 g, .slice na nl nc] 24)).alloc (.cells #[.slice none 0 0, .slice none 0 0, .bool false, .int .i64 0, .slice none 0 0] 50)).alloc (.cells #[.slice none 0 0, .slice none 0 0, .bool false, .int .i64 0, .slice none 0 0] 50)) w p g na nl nc rb s nz5 a bad := by
  have hlt := (Array.getElem?_eq_some_iff.1 h).1
  refine ⟨⟨?_, ?_, ?_⟩, ?_, grown_al (grown_al (grown_al (grown_rf w _) _) _) _, ⟨World.ownsRow_nil _ _ _ _, World.ownsRow_nil _ _ _ _, World.ownsRow_nil _ _ _ _, Or.inl rfl⟩⟩
  · rw [Below.heap_alloc _ _ _ (by simp; omega), Below.heap_alloc _ _ _ (by simp), heap_alloc_new]
  · rw [Below.heap_alloc _ _ _ (by simp)]
    exact (alloc2 w _ _).2
  · have := heap_alloc_new ((w.alloc (.cells #[.int .i64 p, .int .i64 g, .slice na nl nc] 24)).alloc (.cells #[.slice none 0 0, .slice none 0 0, .bool false, .int .i64 0, .slice none 0 0] 50)) (.cells #[.slice none 0 0, .slice none 0 0, .bool false, .int .i64 0, .slice none 0 0] 50)
    have e : ((w.alloc (.cells #[.int .i64 p, .int .i64 g, .slice na nl nc] 24)).alloc (.cells #[.slice none 0 0, .slice none 0 0, .bool false, .int .i64 0, .slice none 0 0] 50)).heap.size = w.heap.size + 2 := by simp
    rw [e] at this
    exact this
  · unfold DRd
    rw [Below.heap_alloc _ _ _ (by simp; omega), Below.heap_alloc _ _ _ (by simp; omega), Below.heap_alloc _ _ _ hlt]
    exact h
/-- what reading a node answers -/
def NdA (w W' : World) (rb : Nat) (s : ByteArray) (a : Nat) (bad : Bool) (p : List UInt8 → Option (Nd × List UInt8)) (e : Ending) : Prop := ∃ (x : N5) (a' : Nat) (bad' : Bool), e = .returned (n5V x) ∧ NvOk W' w.heap.size x ∧ NdIn x.n ∧ DrK s a bad p x.n a' bad' ∧ DRd W' rb s a' bad' ∧ w.grownBy W' (some rb)
theorem NSt.fin {W w : World} {p g : Int} {na : Option Addr} {nl nc rb : Nat} {s : ByteArray} {x : N5} {a0 a : Nat} {bad b : Bool} {q : List UInt8 → Option (Nd × List UInt8)} (h : NSt W w p g na nl nc rb s x a b) (hr : rb < w.heap.size) (hin : NdIn x.n) (hk : DrK s a0 bad q x.n a b) :
    NdA w (((((W.setCell ⟨w.heap.size + 1, 0, none⟩ (.slice x.fa x.n.facts.length x.fc)).setCell ⟨w.heap.size + 1, 1, none⟩ (.slice x.ra x.n.ranks.length x.rc)).setCell ⟨w.heap.size + 1, 2, none⟩ (.bool x.n.reached)).setCell ⟨w.heap.size + 1, 3, none⟩ (.int .i64 x.n.rank)).setCell ⟨w.heap.size + 1, 4, none⟩ (.slice x.va x.n.vals.length x.vc)) rb s a0 bad q (.returned (n5V x)) := by
  have fa := fr5 W (w.heap.size + 1) (.slice x.fa x.n.facts.length x.fc) (.slice x.ra x.n.ranks.length x.rc) (.bool x.n.reached) (.int .i64 x.n.rank) (.slice x.va x.n.vals.length x.vc)
  refine ⟨x, a, b, rfl, h.ok.fr fa (fun j hj => by show j ≠ _; omega) (by omega), hin, hk, fa.box h.rd (by show rb ≠ _; omega), ?_⟩
  exact grown_far (grown_far (grown_far (grown_far (grown_far h.gr (by omega) _) (by omega) _) (by omega) _) (by omega) _) (by omega) _
theorem ranks_end {s : ByteArray} {a2 a3 j k : Nat} {b2 b3 : Bool} {g : Int} {xs ys : List Int} (hk : DrK s a2 b2 (rlist stepX j ()) (ys, ()) a3 b3) (hjk : j ≤ k) (hC : ¬ g = 1 → j = 0 ∧ ys = [] ∧ a3 = a2 ∧ b3 = b2) (hE : g = 1 → b3 = true ∨ j = k) (hsz : a2 ≤ s.size) : DrK s a2 b2 (if g = 1 then rbind (rlist stepX k ()) (fun rs => rret (⟨xs, rs.1, false, 0, []⟩ : Nd)) else rret ⟨xs, [], false, 0, []⟩) ⟨xs, ys, false, 0, []⟩ a3 b3 := by
  by_cases hg : g = 1
  · rw [if_pos hg]
    rcases hE hg with h | h
    · subst h
      exact (hk.cut hjk (ys, ())).bind (DrK.ret true _ hk.sz)
    · subst h
      exact hk.bind (DrK.ret b3 _ hk.sz)
  · rw [if_neg hg]
    obtain ⟨_, rfl, rfl, rfl⟩ := hC hg
    exact DrK.ret _ _ hsz
set_option maxHeartbeats 4000000 in
set_option maxRecDepth 100000 in
theorem dset_any (p g : Int) (hp : p ≤ 4) (na : Option Addr) (nl nc : Nat) (rb a : Nat) (s : ByteArray) (bad : Bool) (w : World) (h : DRd w rb s a bad) (hf : a ≤ s.size) (hs : s.size ≤ 60000) :
    Calls Try.prog 30 #[.pointer (some ⟨rb, 0, none⟩), .agg #[.int .i64 p, .int .i64 g, .slice na nl nc]] w fun e w' => NdA w w' rb s a bad (dset g) e := by
  have hlt := (Array.getElem?_eq_some_iff.1 h).1
  have HR : Hid (DRd w rb s a bad) := h
  clear h
  obtain ⟨i1, hi, hz0, hz1, hz2⟩ := info_parts infoInt
  have HI := (show Hid _ from And.intro hi (And.intro hz0 (And.intro hz1 hz2)))
  clear hi hz0 hz1 hz2
  go_enter Try.func30, Try.ntmps30
  go_upto_region 2 with (fail)
  obtain ⟨V0, hV0⟩ : ∃ V, V = (((w.alloc (.cells #[.int .i64 p, .int .i64 g, .slice na nl nc] 24)).alloc (.cells #[.slice none 0 0, .slice none 0 0, .bool false, .int .i64 0, .slice none 0 0] 50)).alloc (.cells #[.slice none 0 0, .slice none 0 0, .bool false, .int .i64 0, .slice none 0 0] 50)) := ⟨_, rfl⟩
  rw [← hV0]
  have H0 : Hid (NSt V0 w p g na nl nc rb s nz5 a bad) := by rw [hV0]; exact NSt.start p g na nl nc HR.out
  clear hV0
  obtain ⟨x1, x2⟩ := box_cells H0.out.bx.1
  go_wp2_with fail
  clear x1 x2
  refine (dmost_any rb a 60000 s bad V0 H0.out.rd hf hs (by omega)).mono ?_
  rintro e W1 ⟨k, a1, b1, rfl, hk, hk1, hd1, hg1⟩
  have H1 : Hid (NSt W1 w p g na nl nc rb s nz5 a1 b1) := H0.out.call hlt hd1 hg1
  have HK1 : Hid (DrK s a bad (rsm ((60000 : Nat) : Int)) k a1 b1) := hk1
  clear hd1 hg1 hk1 H0
  go_wp2_with fail
  go_loopw [7, 8] (fun lv iv wr => ∃ (i : Nat) (fa : Option Addr) (fc : Nat) (xs : List Int) (last : Int) (a2 : Nat) (b2 : Bool), i ≤ k ∧ iv = .int .i64 i ∧ lv = .int .i64 last ∧ -1 ≤ last ∧ last ≤ 100001 * (i : Int) ∧ Hid (xs.length = i ∧ (∀ f ∈ xs, I64 f) ∧ DrK s a1 b1 (rlist stepD i (-1)) (xs, last) a2 b2) ∧ Hid (NSt wr w p g na nl nc rb s ⟨fa, fc, none, 0, none, 0, ⟨xs, [], false, 0, []⟩⟩ a2 b2)) (fun _ iv _ => k - (intOf iv).toNat)
  case atStart => exact ⟨0, none, 0, [], -1, a1, b1, by omega, rfl, rfl, by omega, by omega, ⟨rfl, (fun f hf => by cases hf), DrK.start b1 _ _ HK1.out.sz⟩, H1.out⟩
  case round =>
    clear H1
    obtain ⟨i, fa, fc, xs, last, a2, b2, hik, rfl, rfl, hl1, hl2, HX, HS⟩ := hrel
    obtain ⟨z1, z2⟩ := box_cells HS.out.rd
    by_cases hlt2 : i < k
    · have hlti : (i : Int) < (k : Int) := by omega
      cases b2 with
      | false =>
        go_wp2_with fail
        clear z1 z2
        refine (dmost_any rb a2 100000 s false wr HS.out.rd HX.out.2.2.sz hs (by omega)).mono ?_
        rintro e W2 ⟨d, a3, b3, rfl, hd, hk3, hd3, hg3⟩
        have H2 : Hid (NSt W2 w p g na nl nc rb s ⟨fa, fc, none, 0, none, 0, ⟨xs, [], false, 0, []⟩⟩ a3 b3) := HS.out.call hlt hd3 hg3
        have HK3 : Hid (DrK s a2 false (rsm ((100000 : Nat) : Int)) d a3 b3) := hk3
        clear hd3 hg3 hk3
        obtain ⟨y1, y2⟩ := box_cells H2.out.bx.2.2
        have hown : (W2.alloc (.cells #[.int .i64 (last + 1 + (d : Int))] 3)).ownsRow (w.heap.size + 3) 3 1 (.slice fa xs.length fc) xs.length (xs.map (Value.int .i64)) := H2.out.ok.f.alloc _
        have hB : w.heap.size + 3 ≤ (W2.alloc (.cells #[.int .i64 (last + 1 + (d : Int))] 3)).heap.size := by have := H2.out.lt; simp; omega
        have hM : xs.length + 1 ≤ maxLen ∧ (xs.length + 1) * 8 ≤ 140737488355328 := by have := HX.out.1; simp only [maxLen]; omega
        have HO := (show Hid _ from And.intro hown (And.intro hB hM))
        have HA : Hid (∀ (a9 : Option Addr) (c9 : Nat) (W9 : World), W9.ownsRow (w.heap.size + 3) 3 1 (.slice a9 (xs.length + 1) c9) (xs.length + 1) (xs.map (Value.int .i64) ++ [.int .i64 (last + 1 + (d : Int))]) → (W2.alloc (.cells #[.int .i64 (last + 1 + (d : Int))] 3)).grownBy W9 (Value.slice fa xs.length fc).ownBlock → ((Value.slice a9 (xs.length + 1) c9).ownBlock = (Value.slice fa xs.length fc).ownBlock ∨ (Value.slice a9 (xs.length + 1) c9).ownBlock = some (W2.alloc (.cells #[.int .i64 (last + 1 + (d : Int))] 3)).heap.size) → W9.heap[w.heap.size + 2]? = some (.cells #[.slice fa xs.length fc, .slice none 0 0, .bool false, .int .i64 0, .slice none 0 0] 50 (0, 0)) ∧ NSt (W9.setCell ⟨w.heap.size + 2, 0, none⟩ (.slice a9 (xs.length + 1) c9)) w p g na nl nc rb s ⟨a9, c9, none, 0, none, 0, ⟨xs ++ [last + 1 + (d : Int)], [], false, 0, []⟩⟩ a3 b3) := by
          intro a9 c9 W9 o9 g9 w9
          exact ⟨(H2.out.grew hlt g9 (own_row_ge H2.out.ok.f)).1.2.2, NSt.app_f H2.out hlt o9 g9 w9⟩
        clear hown hB hM
        go_wp2_with (at_builtin; refine wpList_append_own_at _ rfl _ _ 47 rfl (w.heap.size + 3) 3 i1 (.int .i64 0) 1 8 Try.underlying47 HI.out.1 HI.out.2.1 HI.out.2.2.1 HI.out.2.2.2 rfl (by decide) (.slice fa xs.length fc) xs.length (xs.map (Value.int .i64)) rfl HO.out.1 ⟨W2.heap.size, 0, none⟩ 1 1 [.int .i64 (last + 1 + (d : Int))] rfl rfl (cell_one W2 _ _) (by intro u hu; simp at hu; subst hu; rfl) HO.out.2.2.1 HO.out.2.2.2 HO.out.2.1 ?_; intro v9 W9 o9 g9 _ w9; obtain ⟨a9, c9, rfl⟩ := sl_of_own o9; have H3 := (show Hid _ from HA.out a9 c9 W9 o9 g9 w9); clear y1 y2 o9 g9 w9; obtain ⟨y1, y2⟩ := box_cells H3.out.1)
        --@walk
        refine ⟨⟨i + 1, a9, c9, xs ++ [last + 1 + (d : Int)], last + 1 + (d : Int), a3, b3, by omega, by go_num, rfl, by omega, by omega, ⟨by rw [List.length_append, HX.out.1]; rfl, ?_, HX.out.2.2.snoc (HK3.out.stepD last)⟩, H3.out.2⟩, by simp [intOf]; omega⟩
        intro f hf
        rcases List.mem_append.1 hf with hf | hf
        · exact HX.out.2.1 f hf
        · simp at hf
          subst hf
          exact ⟨by omega, by omega⟩
      | true =>
        have HF : Hid (DrK s a1 b1 (rlist stepD k (-1)) (xs, last) a2 true) := HX.out.2.2.cut hik _
        go_wp2_with fail
        clear z1 z2
        go_loopw [10] (fun iv wr2 => ∃ (j : Nat) (ra : Option Addr) (rc : Nat) (ys : List Int) (a3 : Nat) (b3 : Bool), j ≤ k ∧ iv = .int .i64 j ∧ Hid (ys.length = j ∧ (∀ f ∈ ys, I64 f) ∧ (¬ g = 1 → j = 0 ∧ ys = [] ∧ a3 = a2 ∧ b3 = true) ∧ DrK s a2 true (rlist stepX j ()) (ys, ()) a3 b3) ∧ Hid (NSt wr2 w p g na nl nc rb s ⟨fa, fc, ra, rc, none, 0, ⟨xs, ys, false, 0, []⟩⟩ a3 b3)) (fun iv _ => k - (intOf iv).toNat)
        case atStart => exact ⟨0, none, 0, [], a2, true, by omega, rfl, ⟨rfl, (fun f hf => by cases hf), (fun _ => ⟨rfl, rfl, rfl, rfl⟩), DrK.start true _ _ HX.out.2.2.sz⟩, HS.out⟩
        case round =>
          obtain ⟨j, ra, rc, ys, a3, b3, hjk, rfl, HY, HT⟩ := hrel
          obtain ⟨z1, z2⟩ := box_cells HT.out.rd
          obtain ⟨x1, x2⟩ := box_cells HT.out.bx.1
          obtain ⟨y1, y2⟩ := box_cells HT.out.bx.2.2
          obtain ⟨r1, r2⟩ := box_cells HT.out.bx.2.1
          have hin : Hid (NdIn ⟨xs, ys, false, 0, []⟩) := ⟨HX.out.2.1, HY.out.2.1, i64_k 0 (by omega) (by omega), (fun v hv => by cases hv), (by have := HX.out.1; simp only; omega), (by have := HY.out.1; simp only; omega), by simp⟩
          have hend : Hid ((g = 1 → b3 = true ∨ j = k) → DrK s a bad (dset g) ⟨xs, ys, false, 0, []⟩ a3 b3) := fun hE => HK1.out.bind (HF.out.bind (ranks_end HY.out.2.2.2 hjk HY.out.2.2.1 hE HX.out.2.2.sz))
          by_cases hlt3 : j < k
          · have hlti3 : (j : Int) < (k : Int) := by omega
            cases b3 with
            | false =>
              by_cases hg : g = 1
              · have fg : (g == 1) = true := by rw [beq_iff_eq]; exact hg
                have HG : Hid (g = 1) := hg
                clear hg
                go_wp2_with fail
                clear z1 z2 x1 x2 y1 y2 r1 r2
                refine (dmost_any rb a3 100000 s false wr HT.out.rd HY.out.2.2.2.sz hs (by omega)).mono ?_
                rintro e W4 ⟨d4, a4, b4, rfl, hd4, hk4, hd5, hg5⟩
                have H4 : Hid (NSt W4 w p g na nl nc rb s ⟨fa, fc, ra, rc, none, 0, ⟨xs, ys, false, 0, []⟩⟩ a4 b4) := HT.out.call hlt hd5 hg5
                have HK4 : Hid (DrK s a3 false (rsm ((100000 : Nat) : Int)) d4 a4 b4) := hk4
                clear hd5 hg5 hk4
                obtain ⟨y1, y2⟩ := box_cells H4.out.bx.2.2
                have hown : (W4.alloc (.cells #[.int .i64 (d4 : Int)] 3)).ownsRow (w.heap.size + 3) 3 1 (.slice ra ys.length rc) ys.length (ys.map (Value.int .i64)) := H4.out.ok.r.alloc _
                have hB : w.heap.size + 3 ≤ (W4.alloc (.cells #[.int .i64 (d4 : Int)] 3)).heap.size := by have := H4.out.lt; simp; omega
                have hM : ys.length + 1 ≤ maxLen ∧ (ys.length + 1) * 8 ≤ 140737488355328 := by have := HY.out.1; simp only [maxLen]; omega
                have HO := (show Hid _ from And.intro hown (And.intro hB hM))
                have HA : Hid (∀ (a9 : Option Addr) (c9 : Nat) (W9 : World), W9.ownsRow (w.heap.size + 3) 3 1 (.slice a9 (ys.length + 1) c9) (ys.length + 1) (ys.map (Value.int .i64) ++ [.int .i64 (d4 : Int)]) → (W4.alloc (.cells #[.int .i64 (d4 : Int)] 3)).grownBy W9 (Value.slice ra ys.length rc).ownBlock → ((Value.slice a9 (ys.length + 1) c9).ownBlock = (Value.slice ra ys.length rc).ownBlock ∨ (Value.slice a9 (ys.length + 1) c9).ownBlock = some (W4.alloc (.cells #[.int .i64 (d4 : Int)] 3)).heap.size) → W9.heap[w.heap.size + 2]? = some (.cells #[.slice fa xs.length fc, .slice ra ys.length rc, .bool false, .int .i64 0, .slice none 0 0] 50 (0, 0)) ∧ NSt (W9.setCell ⟨w.heap.size + 2, 1, none⟩ (.slice a9 (ys.length + 1) c9)) w p g na nl nc rb s ⟨fa, fc, a9, c9, none, 0, ⟨xs, ys ++ [(d4 : Int)], false, 0, []⟩⟩ a4 b4) := by
                  intro a9 c9 W9 o9 g9 w9
                  exact ⟨(H4.out.grew hlt g9 (own_row_ge H4.out.ok.r)).1.2.2, NSt.app_r H4.out hlt o9 g9 w9⟩
                clear hown hB hM
                go_wp2_with (at_builtin; refine wpList_append_own_at _ rfl _ _ 47 rfl (w.heap.size + 3) 3 i1 (.int .i64 0) 1 8 Try.underlying47 HI.out.1 HI.out.2.1 HI.out.2.2.1 HI.out.2.2.2 rfl (by decide) (.slice ra ys.length rc) ys.length (ys.map (Value.int .i64)) rfl HO.out.1 ⟨W4.heap.size, 0, none⟩ 1 1 [.int .i64 (d4 : Int)] rfl rfl (cell_one W4 _ _) (by intro u hu; simp at hu; subst hu; rfl) HO.out.2.2.1 HO.out.2.2.2 HO.out.2.1 ?_; intro v9 W9 o9 g9 _ w9; obtain ⟨a9, c9, rfl⟩ := sl_of_own o9; have H5 := (show Hid _ from HA.out a9 c9 W9 o9 g9 w9); clear y1 y2 o9 g9 w9; obtain ⟨y1, y2⟩ := box_cells H5.out.1)
                refine ⟨⟨j + 1, a9, c9, ys ++ [(d4 : Int)], a4, b4, by omega, by go_num, ⟨by rw [List.length_append, HY.out.1]; rfl, ?_, fun h => absurd HG.out h, HY.out.2.2.2.snoc HK4.out.stepX⟩, H5.out.2⟩, by simp [intOf]; omega⟩
                intro f hf
                rcases List.mem_append.1 hf with hf | hf
                · exact HY.out.2.1 f hf
                · simp at hf
                  subst hf
                  exact ⟨by omega, by omega⟩
              · have fg : (g == 1) = false := by rw [beq_eq_false_iff_ne]; exact hg
                have HG : Hid (¬ g = 1) := hg
                clear hg
                go_wp2_with fail
                refine bodyPost_ret (v := n5V ⟨fa, fc, ra, rc, none, 0, ⟨xs, ys, false, 0, []⟩⟩) (by simp [results, Try.results30, go_sem, r1, n5V]) rfl ?_
                exact HT.out.fin hlt hin.out (hend.out (fun h => absurd h HG.out))
            | true =>
              go_wp2_with fail
              refine bodyPost_ret (v := n5V ⟨fa, fc, ra, rc, none, 0, ⟨xs, ys, false, 0, []⟩⟩) (by simp [results, Try.results30, go_sem, r1, n5V]) rfl ?_
              exact HT.out.fin hlt hin.out (hend.out (fun _ => by first | exact Or.inl rfl | exact Or.inl trivial | simp))
          · have hlti3 : ¬ (j : Int) < (k : Int) := by omega
            go_wp2_with fail
            refine bodyPost_ret (v := n5V ⟨fa, fc, ra, rc, none, 0, ⟨xs, ys, false, 0, []⟩⟩) (by simp [results, Try.results30, go_sem, r1, n5V]) rfl ?_
            exact HT.out.fin hlt hin.out (hend.out (fun _ => by first | exact Or.inr (by omega) | simp))
    · have hlti : ¬ (i : Int) < (k : Int) := by omega
      obtain rfl : i = k := by omega
      have HF : Hid (DrK s a1 b1 (rlist stepD i (-1)) (xs, last) a2 b2) := HX.out.2.2
      go_wp2_with fail
      clear z1 z2
      go_loopw [10] (fun iv wr2 => ∃ (j : Nat) (ra : Option Addr) (rc : Nat) (ys : List Int) (a3 : Nat) (b3 : Bool), j ≤ i ∧ iv = .int .i64 j ∧ Hid (ys.length = j ∧ (∀ f ∈ ys, I64 f) ∧ (¬ g = 1 → j = 0 ∧ ys = [] ∧ a3 = a2 ∧ b3 = b2) ∧ DrK s a2 b2 (rlist stepX j ()) (ys, ()) a3 b3) ∧ Hid (NSt wr2 w p g na nl nc rb s ⟨fa, fc, ra, rc, none, 0, ⟨xs, ys, false, 0, []⟩⟩ a3 b3)) (fun iv _ => i - (intOf iv).toNat)
      case atStart => exact ⟨0, none, 0, [], a2, b2, by omega, rfl, ⟨rfl, (fun f hf => by cases hf), (fun _ => ⟨rfl, rfl, rfl, rfl⟩), DrK.start b2 _ _ HX.out.2.2.sz⟩, HS.out⟩
      case round =>
        obtain ⟨j, ra, rc, ys, a3, b3, hjk, rfl, HY, HT⟩ := hrel
        obtain ⟨z1, z2⟩ := box_cells HT.out.rd
        obtain ⟨x1, x2⟩ := box_cells HT.out.bx.1
        obtain ⟨y1, y2⟩ := box_cells HT.out.bx.2.2
        obtain ⟨r1, r2⟩ := box_cells HT.out.bx.2.1
        have hin : Hid (NdIn ⟨xs, ys, false, 0, []⟩) := ⟨HX.out.2.1, HY.out.2.1, i64_k 0 (by omega) (by omega), (fun v hv => by cases hv), (by have := HX.out.1; simp only; omega), (by have := HY.out.1; simp only; omega), by simp⟩
        have hend : Hid ((g = 1 → b3 = true ∨ j = i) → DrK s a bad (dset g) ⟨xs, ys, false, 0, []⟩ a3 b3) := fun hE => HK1.out.bind (HF.out.bind (ranks_end HY.out.2.2.2 hjk HY.out.2.2.1 hE HX.out.2.2.sz))
        by_cases hlt3 : j < i
        · have hlti3 : (j : Int) < (i : Int) := by omega
          cases b3 with
          | false =>
            by_cases hg : g = 1
            · have fg : (g == 1) = true := by rw [beq_iff_eq]; exact hg
              have HG : Hid (g = 1) := hg
              clear hg
              go_wp2_with fail
              clear z1 z2 x1 x2 y1 y2 r1 r2
              refine (dmost_any rb a3 100000 s false wr HT.out.rd HY.out.2.2.2.sz hs (by omega)).mono ?_
              rintro e W4 ⟨d4, a4, b4, rfl, hd4, hk4, hd5, hg5⟩
              have H4 : Hid (NSt W4 w p g na nl nc rb s ⟨fa, fc, ra, rc, none, 0, ⟨xs, ys, false, 0, []⟩⟩ a4 b4) := HT.out.call hlt hd5 hg5
              have HK4 : Hid (DrK s a3 false (rsm ((100000 : Nat) : Int)) d4 a4 b4) := hk4
              clear hd5 hg5 hk4
              obtain ⟨y1, y2⟩ := box_cells H4.out.bx.2.2
              have hown : (W4.alloc (.cells #[.int .i64 (d4 : Int)] 3)).ownsRow (w.heap.size + 3) 3 1 (.slice ra ys.length rc) ys.length (ys.map (Value.int .i64)) := H4.out.ok.r.alloc _
              have hB : w.heap.size + 3 ≤ (W4.alloc (.cells #[.int .i64 (d4 : Int)] 3)).heap.size := by have := H4.out.lt; simp; omega
              have hM : ys.length + 1 ≤ maxLen ∧ (ys.length + 1) * 8 ≤ 140737488355328 := by have := HY.out.1; simp only [maxLen]; omega
              have HO := (show Hid _ from And.intro hown (And.intro hB hM))
              have HA : Hid (∀ (a9 : Option Addr) (c9 : Nat) (W9 : World), W9.ownsRow (w.heap.size + 3) 3 1 (.slice a9 (ys.length + 1) c9) (ys.length + 1) (ys.map (Value.int .i64) ++ [.int .i64 (d4 : Int)]) → (W4.alloc (.cells #[.int .i64 (d4 : Int)] 3)).grownBy W9 (Value.slice ra ys.length rc).ownBlock → ((Value.slice a9 (ys.length + 1) c9).ownBlock = (Value.slice ra ys.length rc).ownBlock ∨ (Value.slice a9 (ys.length + 1) c9).ownBlock = some (W4.alloc (.cells #[.int .i64 (d4 : Int)] 3)).heap.size) → W9.heap[w.heap.size + 2]? = some (.cells #[.slice fa xs.length fc, .slice ra ys.length rc, .bool false, .int .i64 0, .slice none 0 0] 50 (0, 0)) ∧ NSt (W9.setCell ⟨w.heap.size + 2, 1, none⟩ (.slice a9 (ys.length + 1) c9)) w p g na nl nc rb s ⟨fa, fc, a9, c9, none, 0, ⟨xs, ys ++ [(d4 : Int)], false, 0, []⟩⟩ a4 b4) := by
                intro a9 c9 W9 o9 g9 w9
                exact ⟨(H4.out.grew hlt g9 (own_row_ge H4.out.ok.r)).1.2.2, NSt.app_r H4.out hlt o9 g9 w9⟩
              clear hown hB hM
              go_wp2_with (at_builtin; refine wpList_append_own_at _ rfl _ _ 47 rfl (w.heap.size + 3) 3 i1 (.int .i64 0) 1 8 Try.underlying47 HI.out.1 HI.out.2.1 HI.out.2.2.1 HI.out.2.2.2 rfl (by decide) (.slice ra ys.length rc) ys.length (ys.map (Value.int .i64)) rfl HO.out.1 ⟨W4.heap.size, 0, none⟩ 1 1 [.int .i64 (d4 : Int)] rfl rfl (cell_one W4 _ _) (by intro u hu; simp at hu; subst hu; rfl) HO.out.2.2.1 HO.out.2.2.2 HO.out.2.1 ?_; intro v9 W9 o9 g9 _ w9; obtain ⟨a9, c9, rfl⟩ := sl_of_own o9; have H5 := (show Hid _ from HA.out a9 c9 W9 o9 g9 w9); clear y1 y2 o9 g9 w9; obtain ⟨y1, y2⟩ := box_cells H5.out.1)
              refine ⟨⟨j + 1, a9, c9, ys ++ [(d4 : Int)], a4, b4, by omega, by go_num, ⟨by rw [List.length_append, HY.out.1]; rfl, ?_, fun h => absurd HG.out h, HY.out.2.2.2.snoc HK4.out.stepX⟩, H5.out.2⟩, by simp [intOf]; omega⟩
              intro f hf
              rcases List.mem_append.1 hf with hf | hf
              · exact HY.out.2.1 f hf
              · simp at hf
                subst hf
                exact ⟨by omega, by omega⟩
            · have fg : (g == 1) = false := by rw [beq_eq_false_iff_ne]; exact hg
              have HG : Hid (¬ g = 1) := hg
              clear hg
              go_wp2_with fail
              refine bodyPost_ret (v := n5V ⟨fa, fc, ra, rc, none, 0, ⟨xs, ys, false, 0, []⟩⟩) (by simp [results, Try.results30, go_sem, r1, n5V]) rfl ?_
              exact HT.out.fin hlt hin.out (hend.out (fun h => absurd h HG.out))
          | true =>
            go_wp2_with fail
            refine bodyPost_ret (v := n5V ⟨fa, fc, ra, rc, none, 0, ⟨xs, ys, false, 0, []⟩⟩) (by simp [results, Try.results30, go_sem, r1, n5V]) rfl ?_
            exact HT.out.fin hlt hin.out (hend.out (fun _ => by first | exact Or.inl rfl | exact Or.inl trivial | simp))
        · have hlti3 : ¬ (j : Int) < (i : Int) := by omega
          go_wp2_with fail
          refine bodyPost_ret (v := n5V ⟨fa, fc, ra, rc, none, 0, ⟨xs, ys, false, 0, []⟩⟩) (by simp [results, Try.results30, go_sem, r1, n5V]) rfl ?_
          exact HT.out.fin hlt hin.out (hend.out (fun _ => by first | exact Or.inr (by omega) | simp))
end Go.Proofs.Ytmipbiligijcpaa
