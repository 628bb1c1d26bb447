/- The document's Encode. -/
import Derived.Test.YtmipbiligijcpaaJ7
import Derived.Test.YtmipbiligijcpaaJ3
import Derived.Test.YtmipbiligijcpaaH7
namespace Go.Proofs.Ytmipbiligijcpaa
set_option linter.unusedVariables false
set_option linter.unusedSimpArgs false
open Go.RowKit Go.Proofs Go.Maps

theorem nodeB_le {p g : Int} {n : Nd} (hn : NdIn n) (hok : okNode p g n = true) : (nodeB p g n).length ≤ 2100000 := by
  unfold okNode at hok
  unfold nodeB
  split at hok
  · rename_i hp
    rw [if_pos hp]
    exact setB_le hok
  · rename_i hp
    rw [if_neg hp]
    split at hok
    · rename_i hr
      rw [if_pos hr]
      have := envB_le hok hn
      simp only [List.length_cons]; omega
    · rename_i hr
      rw [if_neg hr]
      simp
theorem cnt_ne2 (n : Nat) (l : List UInt8) : cnt n ++ l ≠ [] := by
  intro h
  exact cnt_ne n (List.append_eq_nil_iff.1 h).1
theorem nodeB_ne (p g : Int) (n : Nd) : nodeB p g n ≠ [] := by
  unfold nodeB setB
  split
  · rw [List.append_assoc]; exact cnt_ne2 _ _
  · split <;> simp
theorem rnode_any (p g : Int) (hk : known p g = true) (na : Option Addr) (nl nc : Nat) (fa ra va : Option Addr) (fc rc vc : Nat) (n : Nd) (w : World) (h : NdAt w fa ra va fc rc vc n) (hn : NdIn n) (hok : okNode p g n = true) :
    Calls Try.prog 27 #[.agg #[.slice fa n.facts.length fc, .slice ra n.ranks.length rc, .bool n.reached, .int .i64 n.rank, .slice va n.vals.length vc], .agg #[.int .i64 p, .int .i64 g, .slice na nl nc]] w fun e w' => ∃ u, e = .returned u ∧ NewB w w' u (nodeB p g n) := by
  have hg : g = 1 ∨ g = 2 := by unfold known at hk; simp at hk; omega
  unfold okNode at hok
  unfold nodeB
  split at hok
  · rename_i hp
    rw [if_pos hp]
    exact rnode_set p g na nl nc fa ra va fc rc vc n w h hok hp
  · rename_i hp
    rw [if_neg hp]
    split at hok
    · rename_i hr
      rw [if_pos hr]
      exact rnode_env p g na nl nc fa ra va fc rc vc n w h hn hok hg hr hp
    · rename_i hr
      rw [if_neg hr]
      exact rnode_bare p g na nl nc fa ra va fc rc vc n w (by simpa using hr) hp
set_option maxHeartbeats 2000000 in
set_option maxRecDepth 100000 in
theorem rencode_any (na : Option Addr) (nc : Nat) (c : Ct) (w : World) (h : NodesAt w na c.nodes) (hc : CtIn c) :
    Calls Try.prog 14 #[.agg #[.int .i64 c.problem, .int .i64 c.grade, .slice na c.nodes.length nc]] w fun e w' => e = .returned (.tuple #[.string (encR c).1, .int .i64 (encR c).2]) ∧ Below w.heap.size w w' := by
  have hcert := fun W hb => formed_any na nc c W (h.below hb) hc
  obtain ⟨p, g, ns⟩ := c
  have HH : Hid (NodesAt w na ns ∧ ∀ n ∈ ns, NdIn n) := ⟨h, hc.nodes⟩
  have HC := (show Hid _ from hcert)
  clear h hc hcert
  simp only at HC ⊢
  cases hk : okC ⟨p, g, ns⟩ with
  | false =>
    have HO : Hid (encR ⟨p, g, ns⟩ = (⟨#[]⟩, 5)) := by show _ = _; simp [encR, enc, hk]
    go_enter Try.func14, Try.ntmps14
    go_wp2_with (go_at_call 25; refine (HC.out _ (below1 _ _)).mono ?_; rw [hk]; rintro e W1 ⟨rfl, hb1⟩)
    go_ret2
    rw [HO.out]
    exact ⟨rfl, below_trans (below1 _ _) hb1⟩
  | true =>
    obtain ⟨hkn, h60, hall⟩ := okC_parts hk
    simp only at hkn h60 hall
    have HK : Hid (okC ⟨p, g, ns⟩ = true ∧ known p g = true ∧ (∀ n ∈ ns, okNode p g n = true)) := ⟨hk, hkn, hall⟩
    obtain ⟨pn, gn, rfl, rfl, hp1, hp2, hg1, hg2⟩ := known_nat hkn
    clear hk hkn hall
    have hn60 : ns.length < 18446744073709551616 := by omega
    have HN := (show Hid _ from And.intro (rcount_any ns.length ns.length (Nat.le_refl _) hn60) (cnt_le10 hn60))
    have hpb : pn < 256 := by omega
    have hgb : gn < 256 := by omega
    have HBY : Hid (Lib.byteCells [87, 67, 1, UInt8.ofNat pn, UInt8.ofNat gn] = [.int .u8 87, .int .u8 67, .int .u8 1, .int .u8 pn, .int .u8 gn]) := by
      show _ = _
      simp only [Lib.byteCells, List.map_cons, List.map_nil]
      rw [← byte_nat hpb, ← byte_nat hgb]
      rfl
    go_enter Try.func14, Try.ntmps14
    go_wp2_with fail
    refine (HC.out _ (below1 _ _)).mono ?_
    rw [HK.out.1]
    rintro e W1 ⟨rfl, hb1⟩
    have hbox := (hb1.block _ (by simp)).trans (heap_alloc_new w (.cells #[.int .i64 pn, .int .i64 gn, .slice na ns.length nc] 24))
    obtain ⟨x1, x2⟩ := box_cells hbox
    have e0 : w.heap.size < W1.heap.size := by
      have := hb1.size
      simp at this
      omega
    have HB := (show Hid _ from And.intro (below_trans (below1 _ _) hb1) hbox)
    clear hb1 hbox
    go_upto_region 7 with (first
      | (at_builtin; have _ := H2; refine wpApp rfl _ _ rfl W1.heap.size (.slice (some ⟨W1.heap.size, 0, none⟩) 5 5) [87, 67, 1, UInt8.ofNat pn, UInt8.ofNat gn] rfl H2.out.1 g2 c2 (cnt ns.length) rfl H2.out.2.1 (by have := HN.out.2; simp; omega) H2.out.2.2.size ?_; clear x1 x2; intro a3 c3 W3 o3 g3; have H3 := (show Hid _ from And.intro o3 (below_from H2.out.2.2 g3 (fun q hq => (H2.out.1.lt q hq).1) (Below.refl _ _))); obtain ⟨x1, x2⟩ := box_cells ((H3.out.2.block _ e0).trans HB.out.2); clear o3 g3)
      | (go_at_call 26; refine (HN.out.1 _).mono ?_; clear x1 x2; rintro e W2 ⟨u2, rfl, o2, b2⟩; obtain ⟨g2, c2, rfl, hg2', hc2⟩ := own_news o2 (cnt_ne _); have hl := own_lit W1 W1.heap.size [87, 67, 1, UInt8.ofNat pn, UInt8.ofNat gn] (Nat.le_refl _) (by simp [maxLen]); rw [HBY.out] at hl; have H2 := (show Hid _ from And.intro (by have h2 := own_below hl b2; rw [← HBY.out] at h2; exact h2) (And.intro hc2 (below_trans (below1 _ _) b2))); obtain ⟨x1, x2⟩ := box_cells ((H2.out.2.2.block _ e0).trans HB.out.2); clear o2 b2 hc2 hl hg2'))
    have HD : Hid (headB ⟨pn, gn, ns⟩ = [87, 67, 1, UInt8.ofNat pn, UInt8.ofNat gn] ++ cnt ns.length) := by show _ = _; simp [headB]
    have HT : Hid ((encB ⟨pn, gn, ns⟩).length ≤ 130000000) := by
      show _ ≤ _
      have h1 := headB_le (c := ⟨pn, gn, ns⟩) h60
      have h2 := flat_len (nodeB pn gn) 2100000 ns (fun n hn => nodeB_le (HH.out.2 n hn) (HK.out.2.2 n hn))
      simp only [encB, List.length_append]
      omega
    have HS : Hid (W3.ownsRow W1.heap.size 5 1 (.slice a3 (5 + (cnt ns.length).length) c3) (headB ⟨pn, gn, ns⟩).length (Lib.byteCells (headB ⟨pn, gn, ns⟩)) ∧ Below W1.heap.size W1 W3) := by
      refine ⟨?_, H3.out.2⟩
      rw [HD.out]
      exact H3.out.1
    clear H2 H3 x1 x2
    go_wp2_with fail
    go_loopw [5, 7] (fun bv i wr => ∃ (k : Nat) (q : List UInt8) (ba : Option Addr) (bc : Nat), k ≤ ns.length ∧ i = .int .i64 k ∧ bv = .slice ba q.length bc ∧ Hid (q ++ (ns.drop k).flatMap (nodeB pn gn) = encB ⟨pn, gn, ns⟩) ∧ Hid (wr.ownsRow W1.heap.size 5 1 (.slice ba q.length bc) q.length (Lib.byteCells q) ∧ q ≠ []) ∧ Hid (Below W1.heap.size W1 wr)) (fun _ i _ => ns.length - (intOf i).toNat)
    case atStart =>
      have e5 : 5 + (cnt ns.length).length = (headB ⟨pn, gn, ns⟩).length := by rw [HD.out]; simp only [List.length_append, List.length_cons, List.length_nil]
      exact ⟨0, headB ⟨pn, gn, ns⟩, a3, c3, Nat.zero_le _, rfl, by rw [e5], by show _ = _; simp [encB], ⟨by have h := HS.out.1; rw [e5] at h; exact h, by rw [HD.out]; simp⟩, HS.out.2⟩
    case round =>
      clear HS HD
      obtain ⟨k, q, ba, bc, hk, rfl, rfl, HQ, HR, HK2⟩ := hrel
      have hbx := (HK2.out.block _ e0).trans HB.out.2
      obtain ⟨x1, x2⟩ := box_cells hbx
      have d0 : wr.cell? ⟨w.heap.size, 0, none⟩ = some (.int .i64 pn) := by rw [Lib.cell_of_heap hbx]; rfl
      have d1 : wr.cell? ⟨w.heap.size, 1, none⟩ = some (.int .i64 gn) := by rw [Lib.cell_of_heap hbx]; rfl
      have d2 : wr.cell? ⟨w.heap.size, 2, none⟩ = some (.slice na ns.length nc) := by rw [Lib.cell_of_heap hbx]; rfl
      by_cases hlt : k < ns.length
      · have hlti : (k : Int) < (ns.length : Int) := by omega
        obtain ⟨n, hnk⟩ : ∃ n, ns[k]? = some n := ⟨_, List.getElem?_eq_getElem hlt⟩
        obtain ⟨b1, o1, fa, ra, va, fc, rc, vc, rfl, c0, c1, c2, c3, c4, hat⟩ := (HH.out.1.below (below_trans HB.out.1 HK2.out)) k n hnk
        have hni := HH.out.2 n (List.mem_of_getElem? hnk)
        have hno := HK.out.2.2 n (List.mem_of_getElem? hnk)
        have HX := (show Hid _ from And.intro hnk (And.intro hat (And.intro hni (And.intro hno (nodeB_le hni hno)))))
        have hql : q.length ≤ 130000000 := by
          have h1 := congrArg List.length HQ.out
          have h2 := HT.out
          simp only [List.length_append] at h1 h2
          omega
        have HD := (show Hid _ from And.intro d0 (And.intro d1 (And.intro d2 (And.intro c0 (And.intro c1 (And.intro c2 (And.intro c3 c4)))))))
        clear hnk hat hni hno hbx
        go_wp2_with fail
        clear x1 x2
        go_region_held3 (fun w' => w'.cell? ⟨w.heap.size, 0, none⟩ = some (.int .i64 pn) ∧ w'.cell? ⟨w.heap.size, 1, none⟩ = some (.int .i64 gn) ∧ w'.cell? ⟨w.heap.size, 2, none⟩ = some (.slice (some ⟨b1, o1, none⟩) ns.length nc) ∧ w'.cell? ⟨b1, o1 + k * 5, none⟩ = some (.slice fa n.facts.length fc) ∧ w'.cell? ⟨b1, o1 + k * 5 + 1, none⟩ = some (.slice ra n.ranks.length rc) ∧ w'.cell? ⟨b1, o1 + k * 5 + 2, none⟩ = some (.bool n.reached) ∧ w'.cell? ⟨b1, o1 + k * 5 + 3, none⟩ = some (.int .i64 n.rank) ∧ w'.cell? ⟨b1, o1 + k * 5 + 4, none⟩ = some (.slice va n.vals.length vc)) (go_keep) ((go_at_call 27; refine (rnode_any pn gn HK.out.2.1 _ _ _ fa ra va fc rc vc n _ (HX.out.2.1.below (Below.refl wr.heap.size wr).drew) HX.out.2.2.1 HX.out.2.2.2.1).mono ?_; rintro e W3 ⟨u3, rfl, o3, b3⟩; obtain ⟨g3, cc3, rfl, hg3, hc3⟩ := own_news o3 (nodeB_ne _ _ _); have b4 := below_trans (Below.refl wr.heap.size wr).drew b3; have d0 := cell_stays HD.out.1 b4; have d1 := cell_stays HD.out.2.1 b4; have d2 := cell_stays HD.out.2.2.1 b4; have c0 := cell_stays HD.out.2.2.2.1 b4; have c1 := cell_stays HD.out.2.2.2.2.1 b4; have c2 := cell_stays HD.out.2.2.2.2.2.1 b4; have c3 := cell_stays HD.out.2.2.2.2.2.2.1 b4; have c4 := cell_stays HD.out.2.2.2.2.2.2.2 b4; have H3 := (show Hid _ from And.intro (own_below HR.out.1 b4) (And.intro hc3 (below_trans HK2.out b4))); clear o3 b3 hc3 hg3 b4))
        all_goals
          clear d0 d1 d2 c0 c1 c2 c3 c4
          go_wp2_with (at_builtin; refine wpApp rfl _ _ rfl W1.heap.size (.slice ba q.length bc) q rfl H3.out.1 g3 cc3 (nodeB pn gn n) rfl H3.out.2.1 (by have := HX.out.2.2.2.2; omega) H3.out.2.2.size ?_; intro a4 c4 W4 o4 g4)
          go_roundw
          case rel =>
            refine ⟨k + 1, q ++ nodeB pn gn n, a4, c4, by omega, by go_num, by rw [List.length_append], ?_, ⟨by rw [List.length_append] at o4 ⊢; exact o4, by have := HR.out.2; simp [this]⟩, below_from H3.out.2.2 g4 (fun j hj => (H3.out.1.lt j hj).1) (Below.refl _ _)⟩
            show _ = _
            rw [← HQ.out, flat_drop (nodeB pn gn) ns k n HX.out.1]
            simp
          case measure => simp [intOf]; omega
      · obtain rfl : k = ns.length := by omega
        have hlti : ¬ (ns.length : Int) < (ns.length : Int) := by omega
        have hq := HQ.out
        rw [List.drop_length] at hq
        simp only [List.flatMap_nil, List.append_nil] at hq
        subst hq
        obtain ⟨a5, c5, hv5, kc⟩ := conv_back HR.out.1 HR.out.2
        simp at hv5
        obtain ⟨rfl, rfl⟩ := hv5
        clear hbx d0 d1 d2
        by_cases hbig : 60000 < (encB ⟨pn, gn, ns⟩).length
        · have hbi : 60000 < (((encB ⟨pn, gn, ns⟩).length : Nat) : Int) := by omega
          have HR2 : Hid (encR ⟨pn, gn, ns⟩ = (⟨#[]⟩, 5)) := by
            show _ = _
            have h2 : ¬ (encB ⟨pn, gn, ns⟩).length ≤ 60000 := by omega
            simp [encR, enc, h2]
          clear hbig
          go_wp2_with fail
          go_ret2
          rw [HR2.out]
          exact ⟨rfl, below_trans HB.out.1 HK2.out⟩
        · have hbi : ¬ 60000 < (((encB ⟨pn, gn, ns⟩).length : Nat) : Int) := by omega
          have HR2 : Hid (encR ⟨pn, gn, ns⟩ = (⟨(encB ⟨pn, gn, ns⟩).toArray⟩, 0)) := by
            show _ = _
            have h2 : (encB ⟨pn, gn, ns⟩).length ≤ 60000 := by omega
            simp [encR, enc, HK.out.1, h2]
          clear hbig
          go_wp2_with fail
          go_ret2
          rw [HR2.out]
          exact ⟨rfl, below_trans HB.out.1 HK2.out⟩
end Go.Proofs.Ytmipbiligijcpaa
