/- The document's reader: environments, nodes. -/
import Derived.Test.YtmipbiligijcpaaF6
import Derived.Test.YtmipbiligijcpaaO2
namespace Go.Proofs.Ytmipbiligijcpaa
set_option linter.unusedVariables false
set_option linter.unusedSimpArgs false
open Go.RowKit Go.Proofs Go.Maps

theorem NSt.alloc {W w : World} {p g : Int} {na : Option Addr} {nl nc rb : Nat} {s : ByteArray} {x : N5} {a : Nat} {b : Bool} (h : NSt W w p g na nl nc rb s x a b) (o : Obj) : NSt (W.alloc o) w p g na nl nc rb s x a b := by
  have hz := h.lt
  have key : ∀ (k : Nat) (cs : Array Value) (t : TypeId), W.heap[k]? = some (Obj.cells cs t (0, 0)) → (W.alloc o).heap[k]? = some (Obj.cells cs t (0, 0)) := fun k cs t hk => (Below.heap_alloc _ _ _ (Array.getElem?_eq_some_iff.1 hk).1).trans hk
  exact ⟨⟨key _ _ _ h.bx.1, key _ _ _ h.bx.2.1, key _ _ _ h.bx.2.2⟩, key _ _ _ h.rd, grown_al h.gr o, ⟨h.ok.f.alloc o, h.ok.r.alloc o, h.ok.v.alloc o, h.ok.ap⟩⟩
theorem news_v (W : World) (v : Vl) : ∀ (j : Nat) (u : Value), (vCells v)[j]? = some u → (W.alloc (.cells #[.int .i64 v.kind, .int .i64 v.lo, .int .i64 v.hi, .bool v.early, .int .i64 v.first, .int .i64 v.rank] 62)).cell? ((⟨W.heap.size, 0, none⟩ : Addr).add j) = some u := by
  intro j u hj
  rw [Addr.add_lit, Nat.zero_add, World.cell?_alloc_new]
  simpa [vCells] using hj
theorem vals_end {s : ByteArray} {a4 a5 i k : Nat} {b4 b5 : Bool} {p g : Int} {vs : List Vl} {rk : Int} (hk : DrK s a4 b4 (rlist (stepW p g) i ()) (vs, ()) a5 b5) (hik : i ≤ k) (hE : b5 = true ∨ i = k) : DrK s a4 b4 (rbind (rlist (stepW p g) k ()) (fun us => rret (⟨[], [], true, rk, us.1⟩ : Nd))) ⟨[], [], true, rk, vs⟩ a5 b5 := by
  rcases hE with h | h
  · subst h
    exact (hk.cut hik (vs, ())).bind (DrK.ret true _ hk.sz)
  · subst h
    exact hk.bind (DrK.ret b5 _ hk.sz)
set_option maxHeartbeats 4000000 in
set_option maxRecDepth 100000 in
theorem denv_any (p g : Int) (hp : ¬ p ≤ 4) (na : Option Addr) (nl nc : Nat) (rb a : Nat) (s : ByteArray) (bad : Bool) (w : World) (h : DRd w rb s a bad) (hf : a ≤ s.size) (hs : s.size ≤ 60000) :
    Calls Try.prog 30 #[.pointer (some ⟨rb, 0, none⟩), .agg #[.int .i64 p, .int .i64 g, .slice na nl nc]] w fun e w' => NdA w w' rb s a bad (denv p g) e := by
  have hlt := (Array.getElem?_eq_some_iff.1 h).1
  have HR : Hid (DRd w rb s a bad) := h
  clear h
  obtain ⟨i1, hi, hz0, hz1, hz2⟩ := info_parts infoVl
  have HI := (show Hid _ from And.intro hi (And.intro hz0 (And.intro hz1 hz2)))
  clear hi hz0 hz1 hz2
  go_enter Try.func30, Try.ntmps30
  go_upto_region 2 with (fail)
  obtain ⟨V0, hV0⟩ : ∃ V, V = (((w.alloc (.cells #[.int .i64 p, .int .i64 g, .slice na nl nc] 24)).alloc (.cells #[.slice none 0 0, .slice none 0 0, .bool false, .int .i64 0, .slice none 0 0] 50)).alloc (.cells #[.slice none 0 0, .slice none 0 0, .bool false, .int .i64 0, .slice none 0 0] 50)) := ⟨_, rfl⟩
  rw [← hV0]
  have H0 : Hid (NSt V0 w p g na nl nc rb s nz5 a bad) := by rw [hV0]; exact NSt.start p g na nl nc HR.out
  clear hV0
  obtain ⟨x1, x2⟩ := box_cells H0.out.bx.1
  go_wp2_with fail
  clear x1 x2
  refine (dmost_any rb a 1 s bad V0 H0.out.rd hf hs (by omega)).mono ?_
  rintro e W1 ⟨y, a1, b1, rfl, hy, hk1, hd1, hg1⟩
  have H1 : Hid (NSt W1 w p g na nl nc rb s nz5 a1 b1) := H0.out.call hlt hd1 hg1
  have HK1 : Hid (DrK s a bad (rsm ((1 : Nat) : Int)) y a1 b1) := hk1
  have hz1 := hk1.sz
  clear hd1 hg1 hk1 H0
  obtain ⟨x1, x2⟩ := box_cells H1.out.bx.1
  obtain ⟨y1, y2⟩ := box_cells H1.out.bx.2.2
  obtain ⟨r1, r2⟩ := box_cells H1.out.bx.2.1
  by_cases hy0 : y = 0
  · subst hy0
    simp only [nz5, nd0b] at y1
    go_wp2_with fail
    refine bodyPost_ret (v := n5V nz5) (by simp [results, Try.results30, go_sem, r1, n5V, nz5, nd0b]) rfl ?_
    refine H1.out.fin hlt ndin_0 (HK1.out.bind ?_)
    rw [if_pos rfl]
    exact DrK.ret b1 _ hz1
  · have hy2 : ((y : Int) == 0) = false := by rw [beq_eq_false_iff_ne]; omega
    by_cases hg : g = 1
    · have fg : (g == 1) = true := by rw [beq_iff_eq]; exact hg
      have HG : Hid (g = 1) := hg
      clear hg
      go_wp2_with fail
      obtain ⟨V1, hV1⟩ : ∃ V, V = W1.setCell ⟨w.heap.size + 1 + 1, 2, none⟩ (.bool true) := ⟨_, rfl⟩
      rw [← hV1]
      have H2 : Hid (NSt V1 w p g na nl nc rb s ⟨none, 0, none, 0, none, 0, ⟨[], [], true, 0, []⟩⟩ a1 b1) := by rw [hV1]; exact H1.out.set hlt 2 _ rfl ⟨World.ownsRow_nil _ _ _ _, World.ownsRow_nil _ _ _ _, World.ownsRow_nil _ _ _ _, Or.inl rfl⟩
      clear hV1 x1 x2 y1 y2 r1 r2
      refine (dmost_any rb a1 100000 s b1 V1 H2.out.rd hz1 hs (by omega)).mono ?_
      rintro e W2 ⟨rk, a3, b3, rfl, hrk, hk3, hd3, hg3⟩
      have H3 : Hid (NSt W2 w p g na nl nc rb s ⟨none, 0, none, 0, none, 0, ⟨[], [], true, 0, []⟩⟩ a3 b3) := H2.out.call hlt hd3 hg3
      have HK3 : Hid (DrK s a1 b1 (drank g) rk a3 b3) := by unfold drank; rw [if_pos HG.out]; exact hk3
      have hz3 := hk3.sz
      clear hd3 hg3 hk3
      obtain ⟨y1, y2⟩ := box_cells H3.out.bx.2.2
      go_wp2_with fail
      obtain ⟨V3, hV3⟩ : ∃ V, V = W2.setCell ⟨w.heap.size + 1 + 1, 3, none⟩ (.int .i64 (rk : Int)) := ⟨_, rfl⟩
      rw [← hV3]
      have H4 : Hid (NSt V3 w p g na nl nc rb s ⟨none, 0, none, 0, none, 0, ⟨[], [], true, (rk : Int), []⟩⟩ a3 b3) := by rw [hV3]; exact H3.out.set hlt 3 _ rfl ⟨World.ownsRow_nil _ _ _ _, World.ownsRow_nil _ _ _ _, World.ownsRow_nil _ _ _ _, Or.inl rfl⟩
      clear hV3 y1 y2
      refine (dmost_any rb a3 8 s b3 V3 H4.out.rd hz3 hs (by omega)).mono ?_
      rintro e W4 ⟨k, a4, b4, rfl, hk, hk4, hd4, hg4⟩
      have H5 : Hid (NSt W4 w p g na nl nc rb s ⟨none, 0, none, 0, none, 0, ⟨[], [], true, (rk : Int), []⟩⟩ a4 b4) := H4.out.call hlt hd4 hg4
      have HK4 : Hid (DrK s a3 b3 (rsm ((8 : Nat) : Int)) k a4 b4) := hk4
      have hz4 := hk4.sz
      clear hd4 hg4 hk4
      go_wp2_with fail
      go_loopw [14] (fun iv wr => ∃ (i : Nat) (va : Option Addr) (vc : Nat) (vs : List Vl) (a5 : Nat) (b5 : Bool), i ≤ k ∧ iv = .int .i64 i ∧ Hid (vs.length = i ∧ (∀ v ∈ vs, VlIn v) ∧ DrK s a4 b4 (rlist (stepW p g) i ()) (vs, ()) a5 b5) ∧ Hid (NSt wr w p g na nl nc rb s ⟨none, 0, none, 0, va, vc, ⟨[], [], true, (rk : Int), vs⟩⟩ a5 b5)) (fun iv _ => k - (intOf iv).toNat)
      case atStart => exact ⟨0, none, 0, [], a4, b4, by omega, rfl, ⟨rfl, (fun f hf => by cases hf), DrK.start b4 _ _ hz4⟩, H5.out⟩
      case round =>
        obtain ⟨i, va, vc, vs, a5, b5, hik, rfl, HY, HT⟩ := hrel
        obtain ⟨z1, z2⟩ := box_cells HT.out.rd
        obtain ⟨x1, x2⟩ := box_cells HT.out.bx.1
        obtain ⟨y1, y2⟩ := box_cells HT.out.bx.2.2
        obtain ⟨r1, r2⟩ := box_cells HT.out.bx.2.1
        have hin : Hid (NdIn ⟨[], [], true, (rk : Int), vs⟩) := ⟨(fun f hf => by cases hf), (fun f hf => by cases hf), ⟨by simp only; omega, by simp only; omega⟩, HY.out.2.1, by simp, by simp, (by have := HY.out.1; simp only; omega)⟩
        have hend : Hid (b5 = true ∨ i = k → DrK s a bad (denv p g) ⟨[], [], true, (rk : Int), vs⟩ a5 b5) := by
          intro hE
          refine HK1.out.bind ?_
          rw [if_neg hy0]
          exact HK3.out.bind (HK4.out.bind (vals_end HY.out.2.2 hik hE))
        by_cases hlt3 : i < k
        · have hlti3 : (i : Int) < (k : Int) := by omega
          cases b5 with
          | false =>
            go_wp2_with fail
            clear z1 z2 x1 x2 y1 y2 r1 r2
            refine (dval_any p g na nl nc rb a5 s false wr HT.out.rd HY.out.2.2.sz hs).mono ?_
            rintro e W6 ⟨v, a6, b6, rfl, hv, hk6, hd6, hg6⟩
            have H6 : Hid (NSt W6 w p g na nl nc rb s ⟨none, 0, none, 0, va, vc, ⟨[], [], true, (rk : Int), vs⟩⟩ a6 b6) := HT.out.call hlt hd6 hg6
            have HK6 : Hid (VlIn v ∧ DrK s a5 false (dval p g) v a6 b6) := ⟨hv, hk6⟩
            clear hd6 hg6 hk6 hv
            simp only [vlV]
            go_upto_region 28 with (fail)
            obtain ⟨V6, hV6⟩ : ∃ V, V = W6.alloc (.cells #[.int .i64 v.kind, .int .i64 v.lo, .int .i64 v.hi, .bool v.early, .int .i64 v.first, .int .i64 v.rank] 62) := ⟨_, rfl⟩
            rw [← hV6]
            have H7 : Hid (NSt V6 w p g na nl nc rb s ⟨none, 0, none, 0, va, vc, ⟨[], [], true, (rk : Int), vs⟩⟩ a6 b6) := by rw [hV6]; exact H6.out.alloc _
            have hvb : V6.heap[W6.heap.size]? = some (.cells #[.int .i64 v.kind, .int .i64 v.lo, .int .i64 v.hi, .bool v.early, .int .i64 v.first, .int .i64 v.rank] 62 (0, 0)) := by rw [hV6]; exact heap_alloc_new _ _
            have hown : (V6.alloc (.cells #[.int .i64 v.kind, .int .i64 v.lo, .int .i64 v.hi, .bool v.early, .int .i64 v.first, .int .i64 v.rank] 62)).ownsRow (w.heap.size + 3) 62 6 (.slice va vs.length vc) vs.length (vRow vs) := H7.out.ok.v.alloc _
            have hB : w.heap.size + 3 ≤ (V6.alloc (.cells #[.int .i64 v.kind, .int .i64 v.lo, .int .i64 v.hi, .bool v.early, .int .i64 v.first, .int .i64 v.rank] 62)).heap.size := by have := H7.out.lt; simp; omega
            have hM : vs.length + 1 ≤ maxLen ∧ (vs.length + 1) * 48 ≤ 140737488355328 := by have := HY.out.1; simp only [maxLen]; omega
            have HO := (show Hid _ from And.intro hown (And.intro hB hM))
            have HA : Hid (∀ (a9 : Option Addr) (c9 : Nat) (W9 : World), W9.ownsRow (w.heap.size + 3) 62 6 (.slice a9 (vs.length + 1) c9) (vs.length + 1) (vRow vs ++ vCells v) → (V6.alloc (.cells #[.int .i64 v.kind, .int .i64 v.lo, .int .i64 v.hi, .bool v.early, .int .i64 v.first, .int .i64 v.rank] 62)).grownBy W9 (Value.slice va vs.length vc).ownBlock → W9.heap[w.heap.size + 2]? = some (.cells #[.slice none 0 0, .slice none 0 0, .bool true, .int .i64 (rk : Int), .slice va vs.length vc] 50 (0, 0)) ∧ NSt (W9.setCell ⟨w.heap.size + 2, 4, none⟩ (.slice a9 (vs.length + 1) c9)) w p g na nl nc rb s ⟨none, 0, none, 0, a9, c9, ⟨[], [], true, (rk : Int), vs ++ [v]⟩⟩ a6 b6) := by
              intro a9 c9 W9 o9 g9
              exact ⟨(H7.out.grew hlt g9 (own_row_ge H7.out.ok.v)).1.2.2, NSt.app_v H7.out hlt o9 g9⟩
            obtain ⟨q1, q2⟩ := box_cells hvb
            obtain ⟨y1, y2⟩ := box_cells H7.out.bx.2.2
            clear hown hB hM hvb hV6
            go_wp2_with (at_builtin; refine wpList_append_own_at _ rfl _ _ 48 rfl (w.heap.size + 3) 62 i1 (.agg #[.int .i64 0, .int .i64 0, .int .i64 0, .bool false, .int .i64 0, .int .i64 0]) 6 48 Try.underlying48 HI.out.1 HI.out.2.1 HI.out.2.2.1 HI.out.2.2.2 rfl (by decide) (.slice va vs.length vc) vs.length (vRow vs) rfl HO.out.1 ⟨V6.heap.size, 0, none⟩ 1 1 (vCells v) rfl rfl (news_v V6 v) (by intro u hu; simp [vCells] at hu; rcases hu with rfl | rfl | rfl | rfl | rfl | rfl <;> rfl) HO.out.2.2.1 HO.out.2.2.2 HO.out.2.1 ?_; intro v9 W9 o9 g9 _ w9; obtain ⟨a9, c9, rfl⟩ := sl_of_own o9; have H8 := (show Hid _ from HA.out a9 c9 W9 o9 g9); clear y1 y2 q1 q2 o9 g9 w9; obtain ⟨y1, y2⟩ := box_cells H8.out.1)
            refine ⟨⟨i + 1, a9, c9, vs ++ [v], a6, b6, by omega, by go_num, ⟨by rw [List.length_append, HY.out.1]; rfl, ?_, HY.out.2.2.snoc HK6.out.2.stepW⟩, H8.out.2⟩, by simp [intOf]; omega⟩
            intro f hf
            rcases List.mem_append.1 hf with hf | hf
            · exact HY.out.2.1 f hf
            · simp at hf
              subst hf
              exact HK6.out.1
          | true =>
            go_wp2_with fail
            refine bodyPost_ret (v := n5V ⟨none, 0, none, 0, va, vc, ⟨[], [], true, (rk : Int), vs⟩⟩) (by simp [results, Try.results30, go_sem, r1, n5V]) rfl ?_
            exact HT.out.fin hlt hin.out (hend.out (by first | exact Or.inl rfl | exact Or.inl trivial | simp))
        · have hlti3 : ¬ (i : Int) < (k : Int) := by omega
          go_wp2_with fail
          refine bodyPost_ret (v := n5V ⟨none, 0, none, 0, va, vc, ⟨[], [], true, (rk : Int), vs⟩⟩) (by simp [results, Try.results30, go_sem, r1, n5V]) rfl ?_
          exact HT.out.fin hlt hin.out (hend.out (by first | exact Or.inr (by omega) | simp))
    · have fg : (g == 1) = false := by rw [beq_eq_false_iff_ne]; exact hg
      have HG : Hid (¬ g = 1) := hg
      clear hg
      go_wp2_with fail
      obtain ⟨V1, hV1⟩ : ∃ V, V = W1.setCell ⟨w.heap.size + 1 + 1, 2, none⟩ (.bool true) := ⟨_, rfl⟩
      rw [← hV1]
      have H2 : Hid (NSt V1 w p g na nl nc rb s ⟨none, 0, none, 0, none, 0, ⟨[], [], true, 0, []⟩⟩ a1 b1) := by rw [hV1]; exact H1.out.set hlt 2 _ rfl ⟨World.ownsRow_nil _ _ _ _, World.ownsRow_nil _ _ _ _, World.ownsRow_nil _ _ _ _, Or.inl rfl⟩
      clear hV1 x1 x2 y1 y2 r1 r2
      have H4 : Hid (NSt V1 w p g na nl nc rb s ⟨none, 0, none, 0, none, 0, ⟨[], [], true, ((0 : Nat) : Int), []⟩⟩ a1 b1) := H2
      have hrk : (0 : Nat) ≤ 100000 := by omega
      have hz3 := hz1
      have HK3 : Hid (DrK s a1 b1 (drank g) 0 a1 b1) := by unfold drank; rw [if_neg HG.out]; exact DrK.ret b1 _ hz1
      refine (dmost_any rb a1 8 s b1 V1 H4.out.rd hz3 hs (by omega)).mono ?_
      rintro e W4 ⟨k, a4, b4, rfl, hk, hk4, hd4, hg4⟩
      have H5 : Hid (NSt W4 w p g na nl nc rb s ⟨none, 0, none, 0, none, 0, ⟨[], [], true, ((0 : Nat) : Int), []⟩⟩ a4 b4) := H4.out.call hlt hd4 hg4
      have HK4 : Hid (DrK s a1 b1 (rsm ((8 : Nat) : Int)) k a4 b4) := hk4
      have hz4 := hk4.sz
      clear hd4 hg4 hk4
      go_wp2_with fail
      go_loopw [14] (fun iv wr => ∃ (i : Nat) (va : Option Addr) (vc : Nat) (vs : List Vl) (a5 : Nat) (b5 : Bool), i ≤ k ∧ iv = .int .i64 i ∧ Hid (vs.length = i ∧ (∀ v ∈ vs, VlIn v) ∧ DrK s a4 b4 (rlist (stepW p g) i ()) (vs, ()) a5 b5) ∧ Hid (NSt wr w p g na nl nc rb s ⟨none, 0, none, 0, va, vc, ⟨[], [], true, ((0 : Nat) : Int), vs⟩⟩ a5 b5)) (fun iv _ => k - (intOf iv).toNat)
      case atStart => exact ⟨0, none, 0, [], a4, b4, by omega, rfl, ⟨rfl, (fun f hf => by cases hf), DrK.start b4 _ _ hz4⟩, H5.out⟩
      case round =>
        obtain ⟨i, va, vc, vs, a5, b5, hik, rfl, HY, HT⟩ := hrel
        obtain ⟨z1, z2⟩ := box_cells HT.out.rd
        obtain ⟨x1, x2⟩ := box_cells HT.out.bx.1
        obtain ⟨y1, y2⟩ := box_cells HT.out.bx.2.2
        obtain ⟨r1, r2⟩ := box_cells HT.out.bx.2.1
        have hin : Hid (NdIn ⟨[], [], true, ((0 : Nat) : Int), vs⟩) := ⟨(fun f hf => by cases hf), (fun f hf => by cases hf), ⟨by simp only; omega, by simp only; omega⟩, HY.out.2.1, by simp, by simp, (by have := HY.out.1; simp only; omega)⟩
        have hend : Hid (b5 = true ∨ i = k → DrK s a bad (denv p g) ⟨[], [], true, ((0 : Nat) : Int), vs⟩ a5 b5) := by
          intro hE
          refine HK1.out.bind ?_
          rw [if_neg hy0]
          exact HK3.out.bind (HK4.out.bind (vals_end HY.out.2.2 hik hE))
        by_cases hlt3 : i < k
        · have hlti3 : (i : Int) < (k : Int) := by omega
          cases b5 with
          | false =>
            go_wp2_with fail
            clear z1 z2 x1 x2 y1 y2 r1 r2
            refine (dval_any p g na nl nc rb a5 s false wr HT.out.rd HY.out.2.2.sz hs).mono ?_
            rintro e W6 ⟨v, a6, b6, rfl, hv, hk6, hd6, hg6⟩
            have H6 : Hid (NSt W6 w p g na nl nc rb s ⟨none, 0, none, 0, va, vc, ⟨[], [], true, ((0 : Nat) : Int), vs⟩⟩ a6 b6) := HT.out.call hlt hd6 hg6
            have HK6 : Hid (VlIn v ∧ DrK s a5 false (dval p g) v a6 b6) := ⟨hv, hk6⟩
            clear hd6 hg6 hk6 hv
            simp only [vlV]
            go_upto_region 28 with (fail)
            obtain ⟨V6, hV6⟩ : ∃ V, V = W6.alloc (.cells #[.int .i64 v.kind, .int .i64 v.lo, .int .i64 v.hi, .bool v.early, .int .i64 v.first, .int .i64 v.rank] 62) := ⟨_, rfl⟩
            rw [← hV6]
            have H7 : Hid (NSt V6 w p g na nl nc rb s ⟨none, 0, none, 0, va, vc, ⟨[], [], true, ((0 : Nat) : Int), vs⟩⟩ a6 b6) := by rw [hV6]; exact H6.out.alloc _
            have hvb : V6.heap[W6.heap.size]? = some (.cells #[.int .i64 v.kind, .int .i64 v.lo, .int .i64 v.hi, .bool v.early, .int .i64 v.first, .int .i64 v.rank] 62 (0, 0)) := by rw [hV6]; exact heap_alloc_new _ _
            have hown : (V6.alloc (.cells #[.int .i64 v.kind, .int .i64 v.lo, .int .i64 v.hi, .bool v.early, .int .i64 v.first, .int .i64 v.rank] 62)).ownsRow (w.heap.size + 3) 62 6 (.slice va vs.length vc) vs.length (vRow vs) := H7.out.ok.v.alloc _
            have hB : w.heap.size + 3 ≤ (V6.alloc (.cells #[.int .i64 v.kind, .int .i64 v.lo, .int .i64 v.hi, .bool v.early, .int .i64 v.first, .int .i64 v.rank] 62)).heap.size := by have := H7.out.lt; simp; omega
            have hM : vs.length + 1 ≤ maxLen ∧ (vs.length + 1) * 48 ≤ 140737488355328 := by have := HY.out.1; simp only [maxLen]; omega
            have HO := (show Hid _ from And.intro hown (And.intro hB hM))
            have HA : Hid (∀ (a9 : Option Addr) (c9 : Nat) (W9 : World), W9.ownsRow (w.heap.size + 3) 62 6 (.slice a9 (vs.length + 1) c9) (vs.length + 1) (vRow vs ++ vCells v) → (V6.alloc (.cells #[.int .i64 v.kind, .int .i64 v.lo, .int .i64 v.hi, .bool v.early, .int .i64 v.first, .int .i64 v.rank] 62)).grownBy W9 (Value.slice va vs.length vc).ownBlock → W9.heap[w.heap.size + 2]? = some (.cells #[.slice none 0 0, .slice none 0 0, .bool true, .int .i64 ((0 : Nat) : Int), .slice va vs.length vc] 50 (0, 0)) ∧ NSt (W9.setCell ⟨w.heap.size + 2, 4, none⟩ (.slice a9 (vs.length + 1) c9)) w p g na nl nc rb s ⟨none, 0, none, 0, a9, c9, ⟨[], [], true, ((0 : Nat) : Int), vs ++ [v]⟩⟩ a6 b6) := by
              intro a9 c9 W9 o9 g9
              exact ⟨(H7.out.grew hlt g9 (own_row_ge H7.out.ok.v)).1.2.2, NSt.app_v H7.out hlt o9 g9⟩
            obtain ⟨q1, q2⟩ := box_cells hvb
            obtain ⟨y1, y2⟩ := box_cells H7.out.bx.2.2
            clear hown hB hM hvb hV6
            go_wp2_with (at_builtin; refine wpList_append_own_at _ rfl _ _ 48 rfl (w.heap.size + 3) 62 i1 (.agg #[.int .i64 0, .int .i64 0, .int .i64 0, .bool false, .int .i64 0, .int .i64 0]) 6 48 Try.underlying48 HI.out.1 HI.out.2.1 HI.out.2.2.1 HI.out.2.2.2 rfl (by decide) (.slice va vs.length vc) vs.length (vRow vs) rfl HO.out.1 ⟨V6.heap.size, 0, none⟩ 1 1 (vCells v) rfl rfl (news_v V6 v) (by intro u hu; simp [vCells] at hu; rcases hu with rfl | rfl | rfl | rfl | rfl | rfl <;> rfl) HO.out.2.2.1 HO.out.2.2.2 HO.out.2.1 ?_; intro v9 W9 o9 g9 _ w9; obtain ⟨a9, c9, rfl⟩ := sl_of_own o9; have H8 := (show Hid _ from HA.out a9 c9 W9 o9 g9); clear y1 y2 q1 q2 o9 g9 w9; obtain ⟨y1, y2⟩ := box_cells H8.out.1)
            refine ⟨⟨i + 1, a9, c9, vs ++ [v], a6, b6, by omega, by go_num, ⟨by rw [List.length_append, HY.out.1]; rfl, ?_, HY.out.2.2.snoc HK6.out.2.stepW⟩, H8.out.2⟩, by simp [intOf]; omega⟩
            intro f hf
            rcases List.mem_append.1 hf with hf | hf
            · exact HY.out.2.1 f hf
            · simp at hf
              subst hf
              exact HK6.out.1
          | true =>
            go_wp2_with fail
            refine bodyPost_ret (v := n5V ⟨none, 0, none, 0, va, vc, ⟨[], [], true, ((0 : Nat) : Int), vs⟩⟩) (by simp [results, Try.results30, go_sem, r1, n5V]) rfl ?_
            exact HT.out.fin hlt hin.out (hend.out (by first | exact Or.inl rfl | exact Or.inl trivial | simp))
        · have hlti3 : ¬ (i : Int) < (k : Int) := by omega
          go_wp2_with fail
          refine bodyPost_ret (v := n5V ⟨none, 0, none, 0, va, vc, ⟨[], [], true, ((0 : Nat) : Int), vs⟩⟩) (by simp [results, Try.results30, go_sem, r1, n5V]) rfl ?_
          exact HT.out.fin hlt hin.out (hend.out (by first | exact Or.inr (by omega) | simp))
theorem dnode_any (p g : Int) (na : Option Addr) (nl nc : Nat) (rb a : Nat) (s : ByteArray) (bad : Bool) (w : World) (h : DRd w rb s a bad) (hf : a ≤ s.size) (hs : s.size ≤ 60000) :
    Calls Try.prog 30 #[.pointer (some ⟨rb, 0, none⟩), .agg #[.int .i64 p, .int .i64 g, .slice na nl nc]] w fun e w' => NdA w w' rb s a bad (dnode p g) e := by
  unfold dnode
  by_cases hp : p ≤ 4
  · rw [if_pos hp]
    exact dset_any p g hp na nl nc rb a s bad w h hf hs
  · rw [if_neg hp]
    exact denv_any p g hp na nl nc rb a s bad w h hf hs
end Go.Proofs.Ytmipbiligijcpaa
