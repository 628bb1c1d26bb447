/- The document's bytes: values. -/
import Derived.Test.YtmipbiligijcpaaJ4
import Derived.Test.YtmipbiligijcpaaH6
namespace Go.Proofs.Ytmipbiligijcpaa
set_option linter.unusedVariables false
set_option linter.unusedSimpArgs false
open Go.RowKit Go.Proofs Go.Maps

theorem wpApp {ops : Array Oper} {rest : List Oper} {o : Oper} {a : Act} {Q : Exit → Act → World → Prop} {w : World} (hgd : o.guard = none) (s x : Operand)
    (ho : o.op = .call { callee := .builtin .append, args := #[s, x], argTypes := #[64, 64] })
    (B : Nat) (v : Value) (l : List UInt8) (hs : a.eval s = v) (hown : w.ownsRow B 5 1 v l.length (Lib.byteCells l))
    (g cap : Nat) (m : List UInt8) (hx : a.eval x = .slice (some ⟨g, 0, none⟩) m.length cap) (hm : ∀ j u, (Lib.byteCells m)[j]? = some u → w.cell? ((⟨g, 0, none⟩ : Addr).add j) = some u)
    (hlen : l.length + m.length ≤ 140737488355328) (hB : B ≤ w.heap.size)
    (h : ∀ a' c' w', w'.ownsRow B 5 1 (.slice a' (l.length + m.length) c') (l ++ m).length (Lib.byteCells (l ++ m)) → w.grownBy w' v.ownBlock → wpList Try.prog ops Q rest (a.put o.dst (.slice a' (l.length + m.length) c')) w') :
    wpList Try.prog ops Q (o :: rest) a w := by
  obtain ⟨i0, hi, hz0, hz1, hz2⟩ := info_parts infoByte
  refine wpList_append_own w hgd s x 64 ho B 5 i0 (.int .u8 0) 1 1 Try.underlying64 hi hz0 hz1 hz2 rfl (by decide) v l.length (Lib.byteCells l) hs hown ⟨g, 0, none⟩ m.length cap (Lib.byteCells m) hx (by simp [Lib.byteCells]) hm bytes_one (by simp only [maxLen]; omega) (by omega) hB ?_
  intro v2 W2 o2 g2 _
  obtain ⟨a2, c2, rfl⟩ := sl_of_own o2
  rw [byteCells_app] at o2
  exact h a2 c2 W2 (by rw [List.length_append]; exact o2) g2
theorem own_ge {w : World} {B n : Nat} {v : Value} {xs : List Value} {e size : Nat} (h : w.ownsRow B e size v n xs) {q : Option Nat} (hq : ∀ k, q = some k → k < B) : v.ownBlock = none ∨ v.ownBlock ≠ q := by
  cases hv : v.ownBlock with
  | none => exact Or.inl rfl
  | some k =>
    refine Or.inr (fun e => ?_)
    have := (h.lt k hv).1
    have := hq k e.symm
    omega
def ctV (p g : Int) (na : Option Addr) (nl nc : Nat) : Array Value := #[.int .i64 p, .int .i64 g, .slice na nl nc]
set_option maxHeartbeats 1000000 in
set_option maxRecDepth 100000 in
theorem rval_any (p g r : Int) (na : Option Addr) (nl nc : Nat) (v : Vl) (w : World) (hv : VlIn v) (hok : okVal p g r v = true) (hg : g = 1 ∨ g = 2) (hr : 0 ≤ r) :
    Calls Try.prog 43 #[.agg #[.int .i64 v.kind, .int .i64 v.lo, .int .i64 v.hi, .bool v.early, .int .i64 v.first, .int .i64 v.rank], .agg #[.int .i64 p, .int .i64 g, .slice na nl nc]] w fun e w' => ∃ u, e = .returned u ∧ NewB w w' u (valB p g v) := by
  obtain ⟨kind, lo, hi, early, first, rank⟩ := v
  obtain ⟨_, hl, hh, hf, hra⟩ := hv
  simp only at hl hh hf hra ⊢
  have HS := (show Hid _ from And.intro (fun W => rsigned_any lo W hl) (And.intro (fun W => rsigned_any first W hf) (And.intro (sgn_le hl) (sgn_le hf))))
  have HNE : Hid (∀ x, sgn x ≠ []) := fun x => cnt_ne _
  by_cases h6 : p = 6
  · subst h6
    have hlh : lo ≤ hi := okVal_six hok
    have hwr := wrap_sub hlh hl hh
    have hd : (hi - lo).toNat < 18446744073709551616 := by obtain ⟨a1, a2⟩ := hl; obtain ⟨b1, b2⟩ := hh; omega
    have HV : Hid (valB 6 g ⟨kind, lo, hi, early, first, rank⟩ = sgn lo ++ cnt (hi - lo).toNat) := by show _ = _; simp [valB]
    generalize (hi - lo).toNat = d at hd hwr HV
    have HC := (show Hid _ from And.intro (rcount_any d d (Nat.le_refl _) hd) (cnt_le10 hd))
    clear hl hh hf hra hok
    go_enter Try.func43, Try.ntmps43
    go_wp2_with (first
      | (go_at_call 61; refine (HS.out.1 _).mono ?_; rintro e W1 ⟨u1, rfl, o1, b1⟩; obtain ⟨a1, c1, rfl⟩ := sl_of_own o1; obtain ⟨x1, x2⟩ := box_cells ((b1.block _ (by simp; omega)).trans (alloc2 w _ _).1); obtain ⟨y1, y2⟩ := box_cells ((b1.block _ (by simp)).trans (alloc2 w _ _).2); have H1 := (show Hid _ from And.intro (own_mono o1 (B' := w.heap.size) (by simp; omega)) b1); clear o1 b1)
      | (go_at_call 26; refine (HC.out.1 _).mono ?_; rintro e W2 ⟨u2, rfl, o2, b2⟩; obtain ⟨g2, c2, rfl, hg2, hc2⟩ := own_news o2 (cnt_ne d); have H2 := (show Hid _ from And.intro (own_below H1.out.1 b2) (And.intro hc2 b2)); clear o2 b2 hc2)
      | (at_builtin; refine wpApp rfl _ _ rfl w.heap.size (.slice a1 (sgn lo).length c1) (sgn lo) rfl H2.out.1 g2 c2 (cnt d) rfl H2.out.2.1 (by have := HS.out.2.2.1; have := HC.out.2; omega) (by have h1 := H2.out.2.2.size; have h2 := H1.out.2.size; simp at h2; omega) ?_; intro a3 c3 W3 o3 g3))
    go_ret
    have hb2 := below_trans (below_trans (below2 w _ _) H1.out.2) H2.out.2.2
    refine ⟨_, rfl, ?_, ?_⟩
    · rw [HV.out]
      simpa using o3
    · exact hb2.grown g3 hb2.size (fun k hk => (H2.out.1.lt k hk).1)
  · have hk : (kind = 1 ∧ early = false) ∨ (kind = 2 ∧ (early = false ∨ (early = true ∧ g = 1 ∧ 0 ≤ rank ∧ rank ≤ 100000))) := by
      unfold okVal at hok
      rw [if_neg h6] at hok
      cases early with
      | true => simp [okEarly] at hok ⊢; omega
      | false => simp at hok ⊢; omega
    clear hl hh hf hra hok
    rcases hk with ⟨rfl, rfl⟩ | ⟨rfl, hk⟩
    · have HV : Hid (valB p g ⟨1, lo, hi, false, first, rank⟩ = [1] ++ sgn lo) := by show _ = _; simp [valB, h6]
      have hgg : (p == 6) = false := by simp [h6]
      go_enter Try.func43, Try.ntmps43
      go_wp2_with (first
        | (go_at_call 61; refine (HS.out.1 _).mono ?_; rintro e W1 ⟨u1, rfl, o1, b1⟩; obtain ⟨g1, c1, rfl, hg1, hc1⟩ := own_news o1 (HNE.out lo); obtain ⟨x1, x2⟩ := box_cells ((b1.block _ (by simp; omega)).trans (alloc2 w _ _).1); obtain ⟨y1, y2⟩ := box_cells ((b1.block _ (by simp)).trans (alloc2 w _ _).2); have H1 := (show Hid _ from And.intro o1 (And.intro hc1 b1)); clear o1 b1 hc1)
        | (at_builtin; refine wpApp rfl _ _ rfl w.heap.size (.slice (some ⟨W1.heap.size, 0, none⟩) 1 1) [1] rfl (own_lit W1 w.heap.size [1] (by have h2 := H1.out.2.2.size; simp at h2; omega) (by simp [maxLen])) g1 c1 (sgn lo) rfl (fun j u hj => cell_later (below1 _ _) (H1.out.2.1 j u hj)) (by have := HS.out.2.2.1; simp; omega) (by have h2 := H1.out.2.2.size; simp at h2 ⊢; omega) ?_; intro a3 c3 W3 o3 g3))
      go_ret
      have hb2 := (below_trans (below2 w _ _) H1.out.2.2)
      have hb3 := hb2.alloc hb2.size (.cells #[.int .u8 1] 5)
      refine ⟨_, rfl, ?_, ?_⟩
      · rw [HV.out]
        simpa using o3
      · exact hb3.grown g3 hb3.size (fun k hk => by simp [Value.ownBlock] at hk; have := hb2.size; omega)
    · rcases hg with rfl | rfl
      · cases early with
        | false =>
          have HV : Hid (valB p 1 ⟨2, lo, hi, false, first, rank⟩ = [2, 0]) := by show _ = _; simp [valB, h6]
          have hgg : (p == 6) = false := by simp [h6]
          go_enter Try.func43, Try.ntmps43
          go_wp2_with (go_at_call 61; refine (HS.out.1 _).mono ?_; rintro e W1 ⟨u1, rfl, o1, b1⟩; obtain ⟨a1, c1, rfl⟩ := sl_of_own o1; obtain ⟨x1, x2⟩ := box_cells ((b1.block _ (by simp; omega)).trans (alloc2 w _ _).1); obtain ⟨y1, y2⟩ := box_cells ((b1.block _ (by simp)).trans (alloc2 w _ _).2); have e1 : w.heap.size < W1.heap.size := (by have h2 := b1.size; simp at h2; omega); have e2 : w.heap.size + 1 < W1.heap.size := (by have h2 := b1.size; simp at h2; omega); have H1 := (show Hid _ from And.intro b1 (And.intro ((b1.block _ (by simp; omega)).trans (alloc2 w _ _).1) ((b1.block _ (by simp)).trans (alloc2 w _ _).2))); clear o1 b1)
          go_ret
          have hb2 := below_trans (below2 w _ _) H1.out.1
          refine ⟨_, rfl, ?_, hb2.alloc hb2.size _⟩
          rw [HV.out]
          exact own_lit W1 w.heap.size [2, 0] hb2.size (by simp [maxLen])
        | true =>
          have hrr : 0 ≤ rank ∧ rank ≤ 100000 := by rcases hk with h | h; cases h; exact h.2.2
          obtain ⟨rn, rfl⟩ := Int.eq_ofNat_of_zero_le hrr.1
          have hrn : rn < 18446744073709551616 := by omega
          have HV : Hid (valB p 1 ⟨2, lo, hi, true, first, rn⟩ = [2, 1] ++ sgn first ++ cnt rn) := by show _ = _; simp [valB, h6, cntI]
          have HC := (show Hid _ from And.intro (rcount_any rn rn (Nat.le_refl _) hrn) (cnt_le10 hrn))
          have hgg : (p == 6) = false := by simp [h6]
          clear hk
          go_enter Try.func43, Try.ntmps43
          go_wp2_with (first
            | (at_builtin; refine wpApp rfl _ _ rfl w.heap.size (.slice a5 (2 + (sgn first).length) c5) ([2, 1] ++ sgn first) rfl H5.out.1 g4 c4 (cnt rn) rfl H5.out.2.1 (by have := HS.out.2.2.2; have := HC.out.2; simp; omega) H5.out.2.2.size ?_; intro a6 c6 W6 o6 g6)
            | (at_builtin; refine wpApp rfl _ _ rfl w.heap.size (.slice (some ⟨W1.heap.size, 0, none⟩) 2 2) [2, 1] rfl H4.out.1 g3 c3 (sgn first) rfl H4.out.2.2.1 (by have := HS.out.2.2.2; simp; omega) H4.out.2.2.2.2.size ?_; intro a5 c5 W5 o5 g5; have k5 := H4.out.2.2.2.1.kept g5 (own_ge H4.out.2.2.2.1 (fun k hk => by simp [Value.ownBlock] at hk; have := H3.out.2.2.size; simp at this; omega)); have H5 := (show Hid _ from And.intro o5 (And.intro (fun j u hj => k5.cells (g := g4) rfl j u hj) (H4.out.2.2.2.2.grown g5 H4.out.2.2.2.2.size (fun k hk => (H4.out.1.lt k hk).1)))); clear o5 g5 k5)
            | (go_at_call 26; refine (HC.out.1 _).mono ?_; rintro e W4 ⟨u4, rfl, o4, b4⟩; obtain ⟨g4, c4, rfl, hg4, hc4⟩ := own_news o4 (cnt_ne rn); have H4 := (show Hid _ from And.intro (own_below H3.out.1 b4) (And.intro hg4 (And.intro (fun j u hj => cell_later b4 (H3.out.2.1 j u hj)) (And.intro o4 (below_trans (below_trans (below_trans (below_trans (below2 w _ _) H1.out.1) (below1 _ _)) H3.out.2.2) b4))))); clear o4 b4 hc4 z1 z2)
            | (go_at_call 61; have _ := x1; refine (HS.out.2.1 _).mono ?_; clear x1 x2 y1 y2; rintro e W3 ⟨u3, rfl, o3, b3⟩; obtain ⟨g3, c3, rfl, hg3, hc3⟩ := own_news o3 (HNE.out first); obtain ⟨z1, z2⟩ := box_cells ((b3.block _ (by simp; omega)).trans ((Below.heap_alloc _ _ _ e1).trans H1.out.2.1)); have H3 := (show Hid _ from And.intro (own_below (own_lit W1 w.heap.size [2, 1] (by omega) (by simp [maxLen])) b3) (And.intro hc3 b3)); clear o3 b3 hc3)
            | (go_at_call 61; refine (HS.out.1 _).mono ?_; rintro e W1 ⟨u1, rfl, o1, b1⟩; obtain ⟨a1, c1, rfl⟩ := sl_of_own o1; obtain ⟨x1, x2⟩ := box_cells ((b1.block _ (by simp; omega)).trans (alloc2 w _ _).1); obtain ⟨y1, y2⟩ := box_cells ((b1.block _ (by simp)).trans (alloc2 w _ _).2); have e1 : w.heap.size < W1.heap.size := (by have h2 := b1.size; simp at h2; omega); have e2 : w.heap.size + 1 < W1.heap.size := (by have h2 := b1.size; simp at h2; omega); have H1 := (show Hid _ from And.intro b1 (And.intro ((b1.block _ (by simp; omega)).trans (alloc2 w _ _).1) ((b1.block _ (by simp)).trans (alloc2 w _ _).2))); clear o1 b1))
          go_ret
          refine ⟨_, rfl, ?_, ?_⟩
          · rw [HV.out]
            simpa using o6
          · exact H5.out.2.2.grown g6 H5.out.2.2.size (fun k hk => (H5.out.1.lt k hk).1)
      · have HV : Hid (valB p 2 ⟨2, lo, hi, early, first, rank⟩ = [2]) := by show _ = _; simp [valB, h6]
        have hgg : (p == 6) = false := by simp [h6]
        clear hk
        go_enter Try.func43, Try.ntmps43
        go_wp2_with (go_at_call 61; refine (HS.out.1 _).mono ?_; rintro e W1 ⟨u1, rfl, o1, b1⟩; obtain ⟨a1, c1, rfl⟩ := sl_of_own o1; obtain ⟨x1, x2⟩ := box_cells ((b1.block _ (by simp; omega)).trans (alloc2 w _ _).1); obtain ⟨y1, y2⟩ := box_cells ((b1.block _ (by simp)).trans (alloc2 w _ _).2); have e1 : w.heap.size < W1.heap.size := (by have h2 := b1.size; simp at h2; omega); have e2 : w.heap.size + 1 < W1.heap.size := (by have h2 := b1.size; simp at h2; omega); have H1 := (show Hid _ from And.intro b1 (And.intro ((b1.block _ (by simp; omega)).trans (alloc2 w _ _).1) ((b1.block _ (by simp)).trans (alloc2 w _ _).2))); clear o1 b1)
        go_ret
        have hb2 := below_trans (below2 w _ _) H1.out.1
        refine ⟨_, rfl, ?_, hb2.alloc hb2.size _⟩
        rw [HV.out]
        exact own_lit W1 w.heap.size [2] hb2.size (by simp [maxLen])
end Go.Proofs.Ytmipbiligijcpaa
