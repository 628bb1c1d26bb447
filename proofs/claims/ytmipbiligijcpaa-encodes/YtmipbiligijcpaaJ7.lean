/- The document's bytes: nodes with environments. -/
import Derived.Test.YtmipbiligijcpaaJ6
namespace Go.Proofs.Ytmipbiligijcpaa
set_option linter.unusedVariables false
set_option linter.unusedSimpArgs false
open Go.RowKit Go.Proofs Go.Maps

theorem valB_ne (p g : Int) (v : Vl) : valB p g v ≠ [] := by
  unfold valB
  split
  · intro h
    exact cnt_ne _ (List.append_eq_nil_iff.1 h).2
  · split
    · simp
    · split
      · split <;> simp
      · simp
set_option maxHeartbeats 1000000 in
set_option maxRecDepth 100000 in
theorem rnode_bare (p g : Int) (na : Option Addr) (nl nc : Nat) (fa ra va : Option Addr) (fc rc vc : Nat) (n : Nd) (w : World) (hr : n.reached = false) (hp : ¬ p ≤ 4) :
    Calls Try.prog 27 #[.agg #[.slice fa n.facts.length fc, .slice ra n.ranks.length rc, .bool n.reached, .int .i64 n.rank, .slice va n.vals.length vc], .agg #[.int .i64 p, .int .i64 g, .slice na nl nc]] w fun e w' => ∃ u, e = .returned u ∧ NewB w w' u [0] := by
  rw [hr]
  go_enter Try.func27, Try.ntmps27
  go_wp2_with fail
  go_ret
  refine ⟨_, rfl, ?_, below3 _ _ _ _⟩
  have := own_lit ((w.alloc (.cells #[.slice fa n.facts.length fc, .slice ra n.ranks.length rc, .bool false, .int .i64 n.rank, .slice va n.vals.length vc] 50)).alloc (.cells #[.int .i64 p, .int .i64 g, .slice na nl nc] 24)) w.heap.size [0] (by simp; omega) (by simp [maxLen])
  simpa [Lib.byteCells] using this
set_option maxHeartbeats 2000000 in
set_option maxRecDepth 100000 in
theorem rnode_env (p g : Int) (na : Option Addr) (nl nc : Nat) (fa ra va : Option Addr) (fc rc vc : Nat) (n : Nd) (w : World) (h : NdAt w fa ra va fc rc vc n) (hn : NdIn n) (hok : okEnv p g n = true) (hg : g = 1 ∨ g = 2) (hr : n.reached = true) (hp : ¬ p ≤ 4) :
    Calls Try.prog 27 #[.agg #[.slice fa n.facts.length fc, .slice ra n.ranks.length rc, .bool n.reached, .int .i64 n.rank, .slice va n.vals.length vc], .agg #[.int .i64 p, .int .i64 g, .slice na nl nc]] w fun e w' => ∃ u, e = .returned u ∧ NewB w w' u ([1] ++ envB p g n) := by
  have hsz := envB_le hok hn
  obtain ⟨h8, hr1, hr2, hvok⟩ := okEnv_parts hok
  obtain ⟨facts, ranks, reached, rank, vals⟩ := n
  simp only at hr h8 hr1 hr2 hvok ⊢
  subst hr
  obtain ⟨rn, rfl⟩ := Int.eq_ofNat_of_zero_le hr1
  have HF : Hid (ValsAt w va vals ∧ (∀ v ∈ vals, okVal p g rn v = true ∧ VlIn v)) := ⟨h.vals, fun v hm => ⟨hvok v hm, hn.vals v hm⟩⟩
  have hrn : rn < 18446744073709551616 := by omega
  have hvl : vals.length < 18446744073709551616 := by omega
  have HC := (show Hid _ from And.intro (rcount_any rn rn (Nat.le_refl _) hrn) (And.intro (cnt_le10 hrn) (And.intro (rcount_any vals.length vals.length (Nat.le_refl _) hvl) (cnt_le10 hvl))))
  have HE := (show Hid _ from hsz)
  clear h hn hok hvok hsz
  rcases hg with rfl | rfl
  · go_enter Try.func27, Try.ntmps27
    go_upto_region 19 with (fail)
    generalize hW : (w.alloc (.cells #[.slice fa facts.length fc, .slice ra ranks.length rc, .bool true, .int .i64 rn, .slice va vals.length vc] 50)).alloc (.cells #[.int .i64 p, .int .i64 1, .slice na nl nc] 24) = W1
    have HB : Hid (Below w.heap.size w W1 ∧ W1.heap[w.heap.size]? = some (.cells #[.slice fa facts.length fc, .slice ra ranks.length rc, .bool true, .int .i64 rn, .slice va vals.length vc] 50 (0, 0)) ∧ W1.heap[w.heap.size + 1]? = some (.cells #[.int .i64 p, .int .i64 1, .slice na nl nc] 24 (0, 0))) := by
      subst hW
      exact ⟨below2 _ _ _, (alloc2 w _ _).1, (alloc2 w _ _).2⟩
    clear hW
    have e1 := (Array.getElem?_eq_some_iff.1 HB.out.2.1).1
    have e2 := (Array.getElem?_eq_some_iff.1 HB.out.2.2).1
    go_upto_region 20 with (at_builtin; refine wpApp rfl _ _ rfl W1.heap.size (.slice none 0 0) [] rfl (World.ownsRow_nil _ _ _ _) W1.heap.size 1 [1] rfl (cell_one _ _ _) (by simp) (by simp) ?_; intro a2 c2 W2 o2 g2; have H2 : Hid (W2.ownsRow W1.heap.size 5 1 (.slice a2 1 c2) [1].length (Lib.byteCells [1]) ∧ Below W1.heap.size W1 W2) := And.intro o2 (below_from (Below.refl _ _) g2 (fun q hq => by simp [Value.ownBlock] at hq) (below1 _ _)); clear o2 g2)
    obtain ⟨x1, x2⟩ := box_cells ((H2.out.2.block _ e1).trans HB.out.2.1)
    obtain ⟨y1, y2⟩ := box_cells ((H2.out.2.block _ e2).trans HB.out.2.2)
    go_wp2_with (first
      | (at_builtin; have _ := H5; refine wpApp rfl _ _ rfl W1.heap.size (.slice a4 (1 + (cnt rn).length) c4) ([1] ++ cnt rn) rfl H5.out.1 g5 c5 (cnt vals.length) rfl H5.out.2.1 (by have := HC.out.2.1; have := HC.out.2.2.2; simp; omega) H5.out.2.2.size ?_; clear x1 x2 y1 y2; intro a6 c6 W6 o4 g4; have H6 := (show Hid _ from And.intro o4 (below_from H5.out.2.2 g4 (fun q hq => (H5.out.1.lt q hq).1) (Below.refl _ _))); obtain ⟨x1, x2⟩ := box_cells ((H6.out.2.block _ e1).trans HB.out.2.1); obtain ⟨y1, y2⟩ := box_cells ((H6.out.2.block _ e2).trans HB.out.2.2); clear o4 g4)
      | (go_at_call 26; have _ := H4; refine (HC.out.2.2.1 _).mono ?_; clear x1 x2 y1 y2; rintro e W5 ⟨u3, rfl, o3, b3⟩; obtain ⟨g5, c5, rfl, hg3, hc3⟩ := own_news o3 (cnt_ne _); obtain ⟨x1, x2⟩ := box_cells ((((H4.out.2).trans (b3.mono (H4.out.2).size)).block _ e1).trans HB.out.2.1); obtain ⟨y1, y2⟩ := box_cells ((((H4.out.2).trans (b3.mono (H4.out.2).size)).block _ e2).trans HB.out.2.2); have H5 := (show Hid _ from And.intro (own_below H4.out.1 b3) (And.intro hc3 (below_trans H4.out.2 b3))); clear o3 b3 hc3 hg3)
      | (at_builtin; have _ := H3; refine wpApp rfl _ _ rfl W1.heap.size (.slice a2 1 c2) [1] rfl H3.out.1 g3 c3 (cnt rn) rfl H3.out.2.1 (by have := HC.out.2.1; have := HC.out.2.2.2; simp; omega) H3.out.2.2.size ?_; clear x1 x2 y1 y2; intro a4 c4 W4 o4 g4; have H4 := (show Hid _ from And.intro o4 (below_from H3.out.2.2 g4 (fun q hq => (H3.out.1.lt q hq).1) (Below.refl _ _))); obtain ⟨x1, x2⟩ := box_cells ((H4.out.2.block _ e1).trans HB.out.2.1); obtain ⟨y1, y2⟩ := box_cells ((H4.out.2.block _ e2).trans HB.out.2.2); clear o4 g4)
      | (go_at_call 26; skip; refine (HC.out.1 _).mono ?_; clear x1 x2 y1 y2; rintro e W3 ⟨u3, rfl, o3, b3⟩; obtain ⟨g3, c3, rfl, hg3, hc3⟩ := own_news o3 (cnt_ne _); obtain ⟨x1, x2⟩ := box_cells ((((H2.out.2).trans (b3.mono (H2.out.2).size)).block _ e1).trans HB.out.2.1); obtain ⟨y1, y2⟩ := box_cells ((((H2.out.2).trans (b3.mono (H2.out.2).size)).block _ e2).trans HB.out.2.2); have H3 := (show Hid _ from And.intro (own_below H2.out.1 b3) (And.intro hc3 (below_trans H2.out.2 b3))); clear o3 b3 hc3 hg3))
    have HEV : Hid ([1] ++ envB p 1 ⟨facts, ranks, true, rn, vals⟩ = ([1] ++ cnt rn ++ cnt vals.length) ++ vals.flatMap (valB p 1)) := by show _ = _; simp [envB, cntI]
    have HT : Hid (([1] ++ envB p 1 ⟨facts, ranks, true, rn, vals⟩).length ≤ 401) := by show _ ≤ _; have := HE.out; simp only [List.length_append, List.length_singleton]; omega
    have HS : Hid (W6.ownsRow W1.heap.size 5 1 (.slice a6 ([1] ++ cnt rn ++ cnt vals.length).length c6) ([1] ++ cnt rn ++ cnt vals.length).length (Lib.byteCells ([1] ++ cnt rn ++ cnt vals.length)) ∧ Below W1.heap.size W1 W6) := by
      refine ⟨?_, H6.out.2⟩
      have := H6.out.1
      rw [← List.length_append] at this
      exact this
    clear x1 x2 y1 y2 H2 H3 H4 H5 H6
    go_loopw [5, 12] (fun bv i wr => ∃ (k : Nat) (q : List UInt8) (ba : Option Addr) (bc : Nat), k ≤ vals.length ∧ i = .int .i64 k ∧ bv = .slice ba q.length bc ∧ Hid (q ++ (vals.drop k).flatMap (valB p 1) = [1] ++ envB p 1 ⟨facts, ranks, true, rn, vals⟩) ∧ Hid (wr.ownsRow W1.heap.size 5 1 (.slice ba q.length bc) q.length (Lib.byteCells q)) ∧ Hid (Below W1.heap.size W1 wr)) (fun _ i _ => vals.length - (intOf i).toNat)
    case atStart => exact ⟨0, [1] ++ cnt rn ++ cnt vals.length, a6, c6, Nat.zero_le _, rfl, by first | (simp; done) | (simp; omega), by show _ = _; rw [HEV.out]; simp, HS.out.1, HS.out.2⟩
    case round =>
      clear HS
      obtain ⟨k, q, ba, bc, hk, rfl, rfl, HQ, HR, HK⟩ := hrel
      have hbx := (HK.out.block _ e1).trans HB.out.2.1
      have hby := (HK.out.block _ e2).trans HB.out.2.2
      obtain ⟨x1, x2⟩ := box_cells hbx
      have d0 : wr.cell? ⟨w.heap.size + 1, 0, none⟩ = some (.int .i64 p) := by rw [Lib.cell_of_heap hby]; rfl
      have d1 : wr.cell? ⟨w.heap.size + 1, 1, none⟩ = some (.int .i64 1) := by rw [Lib.cell_of_heap hby]; rfl
      have d2 : wr.cell? ⟨w.heap.size + 1, 2, none⟩ = some (.slice na nl nc) := by rw [Lib.cell_of_heap hby]; rfl
      have d4 : wr.cell? ⟨w.heap.size, 4, none⟩ = some (.slice va vals.length vc) := by rw [Lib.cell_of_heap hbx]; rfl
      by_cases hlt : k < vals.length
      · have hlti : (k : Int) < (vals.length : Int) := by omega
        obtain ⟨v, hx⟩ : ∃ v, vals[k]? = some v := ⟨_, List.getElem?_eq_getElem hlt⟩
        obtain ⟨b1, o1, rfl, c0, c1, c2, c3, c4, c5⟩ := (HF.out.1.below (below_trans HB.out.1 HK.out)) k v hx
        obtain ⟨hvo, hvi⟩ := HF.out.2 v (List.mem_of_getElem? hx)
        have HX := (show Hid _ from And.intro hx (And.intro (fun W => rval_any p 1 rn na nl nc v W hvi hvo (Or.inl rfl) (by omega)) (valB_le hvo hvi)))
        have hql : q.length ≤ 401 := by
          have h1 := congrArg List.length HQ.out
          have h2 := HT.out
          simp only [List.length_append] at h1 h2
          omega
        have HD := (show Hid _ from And.intro d4 (And.intro c0 (And.intro c1 (And.intro c2 (And.intro c3 (And.intro c4 (And.intro c5 (And.intro d0 (And.intro d1 d2)))))))))
        clear hx hvo hvi hbx hby
        go_wp2_with fail
        clear x1 x2
        go_region_held3 (fun w' => w'.cell? ⟨w.heap.size, 4, none⟩ = some (.slice (some ⟨b1, o1, none⟩) vals.length vc) ∧ w'.cell? ⟨b1, o1 + k * 6, none⟩ = some (.int .i64 v.kind) ∧ w'.cell? ⟨b1, o1 + k * 6 + 1, none⟩ = some (.int .i64 v.lo) ∧ w'.cell? ⟨b1, o1 + k * 6 + 2, none⟩ = some (.int .i64 v.hi) ∧ w'.cell? ⟨b1, o1 + k * 6 + 3, none⟩ = some (.bool v.early) ∧ w'.cell? ⟨b1, o1 + k * 6 + 4, none⟩ = some (.int .i64 v.first) ∧ w'.cell? ⟨b1, o1 + k * 6 + 5, none⟩ = some (.int .i64 v.rank) ∧ w'.cell? ⟨w.heap.size + 1, 0, none⟩ = some (.int .i64 p) ∧ w'.cell? ⟨w.heap.size + 1, 1, none⟩ = some (.int .i64 1) ∧ w'.cell? ⟨w.heap.size + 1, 2, none⟩ = some (.slice na nl nc)) (go_keep) ((go_at_call 43; refine (HX.out.2.1 _).mono ?_; rintro e W3 ⟨u3, rfl, o3, b3⟩; obtain ⟨g3, cc3, rfl, hg3, hc3⟩ := own_news o3 (valB_ne _ _ _); have b4 := below_trans (Below.refl wr.heap.size wr).drew b3; have d4 := cell_stays HD.out.1 b4; have c0 := cell_stays HD.out.2.1 b4; have c1 := cell_stays HD.out.2.2.1 b4; have c2 := cell_stays HD.out.2.2.2.1 b4; have c3 := cell_stays HD.out.2.2.2.2.1 b4; have c4 := cell_stays HD.out.2.2.2.2.2.1 b4; have c5 := cell_stays HD.out.2.2.2.2.2.2.1 b4; have d0 := cell_stays HD.out.2.2.2.2.2.2.2.1 b4; have d1 := cell_stays HD.out.2.2.2.2.2.2.2.2.1 b4; have d2 := cell_stays HD.out.2.2.2.2.2.2.2.2.2 b4; have H3 := (show Hid _ from And.intro (own_below HR.out b4) (And.intro hc3 (below_trans HK.out b4))); clear o3 b3 hc3 hg3 b4))
        all_goals
          clear d4 c0 c1 c2 c3 c4 c5 d0 d1 d2
          go_wp2_with (at_builtin; refine wpApp rfl _ _ rfl W1.heap.size (.slice ba q.length bc) q rfl H3.out.1 g3 cc3 (valB p 1 v) rfl H3.out.2.1 (by have := HX.out.2.2; omega) H3.out.2.2.size ?_; intro a4 c4 W4 o4 g4)
          go_roundw
          case rel =>
            refine ⟨k + 1, q ++ valB p 1 v, a4, c4, by omega, by go_num, by rw [List.length_append], ?_, by rw [List.length_append] at o4 ⊢; exact o4, below_from H3.out.2.2 g4 (fun j hj => (H3.out.1.lt j hj).1) (Below.refl _ _)⟩
            show _ = _
            rw [← HQ.out, flat_drop (valB p 1) vals k v HX.out.1]
            simp
          case measure => simp [intOf]; omega
      · obtain rfl : k = vals.length := by omega
        have hlti : ¬ (vals.length : Int) < (vals.length : Int) := by omega
        clear hbx hby
        go_wp2_with fail
        go_ret
        refine ⟨_, rfl, ?_, below_trans HB.out.1 HK.out⟩
        have hq := HQ.out
        rw [List.drop_length] at hq
        simp only [List.flatMap_nil, List.append_nil, List.cons_append, List.nil_append] at hq
        rw [← hq]
        exact own_mono HR.out HB.out.1.size
  · go_enter Try.func27, Try.ntmps27
    go_upto_region 19 with (fail)
    generalize hW : (w.alloc (.cells #[.slice fa facts.length fc, .slice ra ranks.length rc, .bool true, .int .i64 rn, .slice va vals.length vc] 50)).alloc (.cells #[.int .i64 p, .int .i64 2, .slice na nl nc] 24) = W1
    have HB : Hid (Below w.heap.size w W1 ∧ W1.heap[w.heap.size]? = some (.cells #[.slice fa facts.length fc, .slice ra ranks.length rc, .bool true, .int .i64 rn, .slice va vals.length vc] 50 (0, 0)) ∧ W1.heap[w.heap.size + 1]? = some (.cells #[.int .i64 p, .int .i64 2, .slice na nl nc] 24 (0, 0))) := by
      subst hW
      exact ⟨below2 _ _ _, (alloc2 w _ _).1, (alloc2 w _ _).2⟩
    clear hW
    have e1 := (Array.getElem?_eq_some_iff.1 HB.out.2.1).1
    have e2 := (Array.getElem?_eq_some_iff.1 HB.out.2.2).1
    go_upto_region 20 with (at_builtin; refine wpApp rfl _ _ rfl W1.heap.size (.slice none 0 0) [] rfl (World.ownsRow_nil _ _ _ _) W1.heap.size 1 [1] rfl (cell_one _ _ _) (by simp) (by simp) ?_; intro a2 c2 W2 o2 g2; have H2 : Hid (W2.ownsRow W1.heap.size 5 1 (.slice a2 1 c2) [1].length (Lib.byteCells [1]) ∧ Below W1.heap.size W1 W2) := And.intro o2 (below_from (Below.refl _ _) g2 (fun q hq => by simp [Value.ownBlock] at hq) (below1 _ _)); clear o2 g2)
    obtain ⟨x1, x2⟩ := box_cells ((H2.out.2.block _ e1).trans HB.out.2.1)
    obtain ⟨y1, y2⟩ := box_cells ((H2.out.2.block _ e2).trans HB.out.2.2)
    go_wp2_with (first
      | (at_builtin; have _ := H3; refine wpApp rfl _ _ rfl W1.heap.size (.slice a2 1 c2) [1] rfl H3.out.1 g3 c3 (cnt vals.length) rfl H3.out.2.1 (by have := HC.out.2.1; have := HC.out.2.2.2; simp; omega) H3.out.2.2.size ?_; clear x1 x2 y1 y2; intro a6 c6 W4 o4 g4; have H6 := (show Hid _ from And.intro o4 (below_from H3.out.2.2 g4 (fun q hq => (H3.out.1.lt q hq).1) (Below.refl _ _))); obtain ⟨x1, x2⟩ := box_cells ((H6.out.2.block _ e1).trans HB.out.2.1); obtain ⟨y1, y2⟩ := box_cells ((H6.out.2.block _ e2).trans HB.out.2.2); clear o4 g4)
      | (go_at_call 26; skip; refine (HC.out.2.2.1 _).mono ?_; clear x1 x2 y1 y2; rintro e W3 ⟨u3, rfl, o3, b3⟩; obtain ⟨g3, c3, rfl, hg3, hc3⟩ := own_news o3 (cnt_ne _); obtain ⟨x1, x2⟩ := box_cells ((((H2.out.2).trans (b3.mono (H2.out.2).size)).block _ e1).trans HB.out.2.1); obtain ⟨y1, y2⟩ := box_cells ((((H2.out.2).trans (b3.mono (H2.out.2).size)).block _ e2).trans HB.out.2.2); have H3 := (show Hid _ from And.intro (own_below H2.out.1 b3) (And.intro hc3 (below_trans H2.out.2 b3))); clear o3 b3 hc3 hg3))
    have HEV : Hid ([1] ++ envB p 2 ⟨facts, ranks, true, rn, vals⟩ = ([1] ++ cnt vals.length) ++ vals.flatMap (valB p 2)) := by show _ = _; simp [envB]
    have HT : Hid (([1] ++ envB p 2 ⟨facts, ranks, true, rn, vals⟩).length ≤ 401) := by show _ ≤ _; have := HE.out; simp only [List.length_append, List.length_singleton]; omega
    have HS : Hid (W4.ownsRow W1.heap.size 5 1 (.slice a6 ([1] ++ cnt vals.length).length c6) ([1] ++ cnt vals.length).length (Lib.byteCells ([1] ++ cnt vals.length)) ∧ Below W1.heap.size W1 W4) := by
      refine ⟨?_, H6.out.2⟩
      have := H6.out.1
      rw [← List.length_append] at this
      exact this
    clear x1 x2 y1 y2 H2 H3 H6
    go_loopw [5, 12] (fun bv i wr => ∃ (k : Nat) (q : List UInt8) (ba : Option Addr) (bc : Nat), k ≤ vals.length ∧ i = .int .i64 k ∧ bv = .slice ba q.length bc ∧ Hid (q ++ (vals.drop k).flatMap (valB p 2) = [1] ++ envB p 2 ⟨facts, ranks, true, rn, vals⟩) ∧ Hid (wr.ownsRow W1.heap.size 5 1 (.slice ba q.length bc) q.length (Lib.byteCells q)) ∧ Hid (Below W1.heap.size W1 wr)) (fun _ i _ => vals.length - (intOf i).toNat)
    case atStart => exact ⟨0, [1] ++ cnt vals.length, a6, c6, Nat.zero_le _, rfl, by first | (simp; done) | (simp; omega), by show _ = _; rw [HEV.out]; simp, HS.out.1, HS.out.2⟩
    case round =>
      clear HS
      obtain ⟨k, q, ba, bc, hk, rfl, rfl, HQ, HR, HK⟩ := hrel
      have hbx := (HK.out.block _ e1).trans HB.out.2.1
      have hby := (HK.out.block _ e2).trans HB.out.2.2
      obtain ⟨x1, x2⟩ := box_cells hbx
      have d0 : wr.cell? ⟨w.heap.size + 1, 0, none⟩ = some (.int .i64 p) := by rw [Lib.cell_of_heap hby]; rfl
      have d1 : wr.cell? ⟨w.heap.size + 1, 1, none⟩ = some (.int .i64 2) := by rw [Lib.cell_of_heap hby]; rfl
      have d2 : wr.cell? ⟨w.heap.size + 1, 2, none⟩ = some (.slice na nl nc) := by rw [Lib.cell_of_heap hby]; rfl
      have d4 : wr.cell? ⟨w.heap.size, 4, none⟩ = some (.slice va vals.length vc) := by rw [Lib.cell_of_heap hbx]; rfl
      by_cases hlt : k < vals.length
      · have hlti : (k : Int) < (vals.length : Int) := by omega
        obtain ⟨v, hx⟩ : ∃ v, vals[k]? = some v := ⟨_, List.getElem?_eq_getElem hlt⟩
        obtain ⟨b1, o1, rfl, c0, c1, c2, c3, c4, c5⟩ := (HF.out.1.below (below_trans HB.out.1 HK.out)) k v hx
        obtain ⟨hvo, hvi⟩ := HF.out.2 v (List.mem_of_getElem? hx)
        have HX := (show Hid _ from And.intro hx (And.intro (fun W => rval_any p 2 rn na nl nc v W hvi hvo (Or.inr rfl) (by omega)) (valB_le hvo hvi)))
        have hql : q.length ≤ 401 := by
          have h1 := congrArg List.length HQ.out
          have h2 := HT.out
          simp only [List.length_append] at h1 h2
          omega
        have HD := (show Hid _ from And.intro d4 (And.intro c0 (And.intro c1 (And.intro c2 (And.intro c3 (And.intro c4 (And.intro c5 (And.intro d0 (And.intro d1 d2)))))))))
        clear hx hvo hvi hbx hby
        go_wp2_with fail
        clear x1 x2
        go_region_held3 (fun w' => w'.cell? ⟨w.heap.size, 4, none⟩ = some (.slice (some ⟨b1, o1, none⟩) vals.length vc) ∧ w'.cell? ⟨b1, o1 + k * 6, none⟩ = some (.int .i64 v.kind) ∧ w'.cell? ⟨b1, o1 + k * 6 + 1, none⟩ = some (.int .i64 v.lo) ∧ w'.cell? ⟨b1, o1 + k * 6 + 2, none⟩ = some (.int .i64 v.hi) ∧ w'.cell? ⟨b1, o1 + k * 6 + 3, none⟩ = some (.bool v.early) ∧ w'.cell? ⟨b1, o1 + k * 6 + 4, none⟩ = some (.int .i64 v.first) ∧ w'.cell? ⟨b1, o1 + k * 6 + 5, none⟩ = some (.int .i64 v.rank) ∧ w'.cell? ⟨w.heap.size + 1, 0, none⟩ = some (.int .i64 p) ∧ w'.cell? ⟨w.heap.size + 1, 1, none⟩ = some (.int .i64 2) ∧ w'.cell? ⟨w.heap.size + 1, 2, none⟩ = some (.slice na nl nc)) (go_keep) ((go_at_call 43; refine (HX.out.2.1 _).mono ?_; rintro e W3 ⟨u3, rfl, o3, b3⟩; obtain ⟨g3, cc3, rfl, hg3, hc3⟩ := own_news o3 (valB_ne _ _ _); have b4 := below_trans (Below.refl wr.heap.size wr).drew b3; have d4 := cell_stays HD.out.1 b4; have c0 := cell_stays HD.out.2.1 b4; have c1 := cell_stays HD.out.2.2.1 b4; have c2 := cell_stays HD.out.2.2.2.1 b4; have c3 := cell_stays HD.out.2.2.2.2.1 b4; have c4 := cell_stays HD.out.2.2.2.2.2.1 b4; have c5 := cell_stays HD.out.2.2.2.2.2.2.1 b4; have d0 := cell_stays HD.out.2.2.2.2.2.2.2.1 b4; have d1 := cell_stays HD.out.2.2.2.2.2.2.2.2.1 b4; have d2 := cell_stays HD.out.2.2.2.2.2.2.2.2.2 b4; have H3 := (show Hid _ from And.intro (own_below HR.out b4) (And.intro hc3 (below_trans HK.out b4))); clear o3 b3 hc3 hg3 b4))
        all_goals
          clear d4 c0 c1 c2 c3 c4 c5 d0 d1 d2
          go_wp2_with (at_builtin; refine wpApp rfl _ _ rfl W1.heap.size (.slice ba q.length bc) q rfl H3.out.1 g3 cc3 (valB p 2 v) rfl H3.out.2.1 (by have := HX.out.2.2; omega) H3.out.2.2.size ?_; intro a4 c4 W4 o4 g4)
          go_roundw
          case rel =>
            refine ⟨k + 1, q ++ valB p 2 v, a4, c4, by omega, by go_num, by rw [List.length_append], ?_, by rw [List.length_append] at o4 ⊢; exact o4, below_from H3.out.2.2 g4 (fun j hj => (H3.out.1.lt j hj).1) (Below.refl _ _)⟩
            show _ = _
            rw [← HQ.out, flat_drop (valB p 2) vals k v HX.out.1]
            simp
          case measure => simp [intOf]; omega
      · obtain rfl : k = vals.length := by omega
        have hlti : ¬ (vals.length : Int) < (vals.length : Int) := by omega
        clear hbx hby
        go_wp2_with fail
        go_ret
        refine ⟨_, rfl, ?_, below_trans HB.out.1 HK.out⟩
        have hq := HQ.out
        rw [List.drop_length] at hq
        simp only [List.flatMap_nil, List.append_nil, List.cons_append, List.nil_append] at hq
        rw [← hq]
        exact own_mono HR.out HB.out.1.size
end Go.Proofs.Ytmipbiligijcpaa
