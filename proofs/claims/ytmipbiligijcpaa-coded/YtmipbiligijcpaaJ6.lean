/- The document's bytes: nodes with sets. -/
import Derived.Test.YtmipbiligijcpaaJ5
import Derived.Deep.RegionHeld3
import Derived.Deep.RegionLaw
import Derived.Deep.QuietTactic
import Derived.BigQuiet
import Derived.Deep.Cut
namespace Go.Proofs.Ytmipbiligijcpaa
set_option linter.unusedVariables false
set_option linter.unusedSimpArgs false
open Go.RowKit Go.Proofs Go.Maps

theorem news_ints {w : World} {ad : Addr} {xs : List Int} (h : IntsAt w (some ad) xs) : ∀ (j : Nat) (u : Value), (xs.map (Value.int .i64))[j]? = some u → w.cell? (ad.add j) = some u := by
  intro j u hj
  simp only [List.getElem?_map, Option.map_eq_some_iff] at hj
  obtain ⟨x, hx, rfl⟩ := hj
  obtain ⟨b, o, e, hc⟩ := h j x hx
  cases e
  rw [Addr.add_lit]
  exact hc
theorem ints_one {xs : List Int} : ∀ u ∈ xs.map (Value.int .i64), u.oneCell' = true := by
  intro u hu
  simp at hu
  obtain ⟨a, _, rfl⟩ := hu
  rfl
theorem wpAppI {ops : Array Oper} {rest : List Oper} {o : Oper} {a : Act} {Q : Exit → Act → World → Prop} {w : World} (hgd : o.guard = none) (s x : Operand)
    (ho : o.op = .call { callee := .builtin .append, args := #[s, x], argTypes := #[47, 47] })
    (B : Nat) (v : Value) (l : List Int) (hs : a.eval s = v) (hown : w.ownsRow B 3 1 v l.length (l.map (Value.int .i64)))
    (xa : Option Addr) (cap : Nat) (m : List Int) (hx : a.eval x = .slice xa m.length cap) (hnil : xa = none → cap = 0) (hm : IntsAt w xa m)
    (hlen : (l.length + m.length) * 8 ≤ 140737488355328) (hB : B ≤ w.heap.size)
    (h : ∀ a' c' w', w'.ownsRow B 3 1 (.slice a' (l.length + m.length) c') (l ++ m).length ((l ++ m).map (Value.int .i64)) → w.grownBy w' v.ownBlock → wpList Try.prog ops Q rest (a.put o.dst (.slice a' (l.length + m.length) c')) w') :
    wpList Try.prog ops Q (o :: rest) a w := by
  obtain ⟨i0, hi, hz0, hz1, hz2⟩ := info_parts infoInt
  cases xa with
  | none =>
    have hc := hnil rfl
    subst hc
    have hm0 : m = [] := by
      cases m with
      | nil => rfl
      | cons y r => obtain ⟨b, o, e, _⟩ := hm 0 y rfl; cases e
    subst hm0
    obtain ⟨a2, c2, rfl⟩ := sl_of_own hown
    refine wpList_append_own_none hgd s x 47 ho B 3 i0 1 Try.underlying47 hi (.slice a2 l.length c2) l.length (l.map (Value.int .i64)) hs hown hx ?_
    exact h a2 c2 w (by simpa using hown) (World.grownBy.refl _ _)
  | some ad =>
    refine wpList_append_own w hgd s x 47 ho B 3 i0 (.int .i64 0) 1 8 Try.underlying47 hi hz0 hz1 hz2 rfl (by decide) v l.length (l.map (Value.int .i64)) hs hown ad m.length cap (m.map (Value.int .i64)) hx (by simp) (news_ints hm) ints_one (by simp only [maxLen]; omega) (by omega) hB ?_
    intro v2 W2 o2 g2 _
    obtain ⟨a2, c2, rfl⟩ := sl_of_own o2
    exact h a2 c2 W2 (by rw [List.length_append, List.map_append]; exact o2) g2
theorem own_litI (w : World) (B : Nat) (x : Int) (hB : B ≤ w.heap.size) : (w.alloc (.cells #[.int .i64 x] 3)).ownsRow B 3 1 (.slice (some ⟨w.heap.size, 0, none⟩) 1 1) [x].length ([x].map (Value.int .i64)) :=
  ⟨rfl, Or.inr ⟨w.heap.size, 1, _, rfl, hB, heap_alloc_new w _, Nat.le_refl _, by simp [maxLen], rfl, rfl⟩⟩
theorem ints_own {w : World} {B : Nat} {a : Option Addr} {c n : Nat} {xs : List Int} (h : w.ownsRow B 3 1 (.slice a n c) xs.length (xs.map (Value.int .i64))) : IntsAt w a xs := by
  intro j x hj
  have hjl := (List.getElem?_eq_some_iff.1 hj).1
  rcases h.2 with ⟨_, e⟩ | ⟨g, cap, cur, hv, _⟩
  · omega
  · simp at hv
    obtain ⟨rfl, rfl, rfl⟩ := hv
    have := h.cells (g := g) rfl j (.int .i64 x) (by simp [hj])
    rw [Addr.add_lit] at this
    exact ⟨g, 0, rfl, this⟩
theorem ints_new (w : World) (x : Int) : IntsAt (w.alloc (.cells #[.int .i64 x] 3)) (some ⟨w.heap.size, 0, none⟩) [x] := by
  intro j y hj
  match j, hj with
  | 0, hj =>
    simp at hj
    subst hj
    exact ⟨_, _, rfl, by simp⟩
theorem wrap_i (x : Int) (h : I64 x) : IntKind.i64.wrap x = x := by
  obtain ⟨h1, h2⟩ := h
  have e : IntKind.i64.wrap x = if 9223372036854775808 ≤ x % 18446744073709551616 then x % 18446744073709551616 - 18446744073709551616 else x % 18446744073709551616 := by simp [IntKind.wrap, IntKind.bits, IntKind.signed]
  rw [e]
  split <;> omega
theorem below_from {W1 wr X W4 : World} {row : Option Nat} (h : Below W1.heap.size W1 wr) (g : X.grownBy W4 row) (hrow : ∀ q, row = some q → W1.heap.size ≤ q) (hx : Below wr.heap.size wr X) : Below W1.heap.size W1 W4 :=
  (below_trans h hx).grown g (below_trans h hx).size hrow
theorem setB_flat (n : Nd) : setB n = (((n.facts.length : Int) :: deltas 0 n.facts) ++ n.ranks).flatMap cntI := by
  simp [setB, cntI]
set_option maxHeartbeats 2000000 in
set_option maxRecDepth 100000 in
theorem rnode_set (p g : Int) (na : Option Addr) (nl nc : Nat) (fa ra va : Option Addr) (fc rc vc : Nat) (n : Nd) (w : World) (h : NdAt w fa ra va fc rc vc n) (hok : okSet g n = true) (hp : p ≤ 4) :
    Calls Try.prog 27 #[.agg #[.slice fa n.facts.length fc, .slice ra n.ranks.length rc, .bool n.reached, .int .i64 n.rank, .slice va n.vals.length vc], .agg #[.int .i64 p, .int .i64 g, .slice na nl nc]] w fun e w' => ∃ u, e = .returned u ∧ NewB w w' u (setB n) := by
  have hfl := rises_len (okSet_rises hok)
  have hrl := ranks_len hok
  have hsz := setB_le hok
  have HO : Hid (rises 0 n.facts = true ∧ ∀ r ∈ n.ranks, 0 ≤ r ∧ r ≤ 100000) := ⟨okSet_rises hok, ranks_all hok⟩
  have HH : Hid (IntsAt w fa n.facts ∧ IntsAt w ra n.ranks ∧ (ra = none → rc = 0)) := ⟨h.facts, h.ranks, h.rnil⟩
  clear h hok
  go_enter Try.func27, Try.ntmps27
  go_upto_region 3 with (fail)
  generalize hW : (w.alloc (.cells #[.slice fa n.facts.length fc, .slice ra n.ranks.length rc, .bool n.reached, .int .i64 n.rank, .slice va n.vals.length vc] 50)).alloc (.cells #[.int .i64 p, .int .i64 g, .slice na nl nc] 24) = W1
  have HB : Hid (Below w.heap.size w W1 ∧ W1.heap[w.heap.size]? = some (.cells #[.slice fa n.facts.length fc, .slice ra n.ranks.length rc, .bool n.reached, .int .i64 n.rank, .slice va n.vals.length vc] 50 (0, 0))) := by
    subst hW
    exact ⟨below2 _ _ _, (alloc2 w _ _).1⟩
  clear hW
  obtain ⟨x1, x2⟩ := box_cells HB.out.2
  have e1 := (Array.getElem?_eq_some_iff.1 HB.out.2).1
  go_wp2_with fail
  clear x1 x2
  go_loopw [6, 7] (fun l i wr => ∃ (k : Nat) (fl : Int) (pre : List Int) (la : Option Addr) (lc : Nat), k ≤ n.facts.length ∧ i = .int .i64 k ∧ l = .slice la (k + 1) lc ∧ 0 ≤ fl ∧ Hid ((k = 0 → fl = 0) ∧ (∀ j, k = j + 1 → n.facts[j]? = some (fl - 1))) ∧ Hid (deltas 0 n.facts = pre ++ deltas fl (n.facts.drop k) ∧ pre.length = k ∧ rises fl (n.facts.drop k) = true) ∧ Hid (wr.ownsRow W1.heap.size 3 1 (.slice la (k + 1) lc) ((n.facts.length : Int) :: pre).length (((n.facts.length : Int) :: pre).map (Value.int .i64))) ∧ Hid (Below W1.heap.size W1 wr)) (fun _ i _ => n.facts.length - (intOf i).toNat)
  case atStart => exact ⟨0, 0, [], some ⟨W1.heap.size, 0, none⟩, 1, Nat.zero_le _, rfl, rfl, by omega, ⟨fun _ => rfl, fun j h => by omega⟩, ⟨by simp, rfl, by simpa using HO.out.1⟩, own_litI W1 W1.heap.size _ (Nat.le_refl _), below1 _ _⟩
  case round =>
    obtain ⟨k, fl, pre, la, lc, hk, rfl, rfl, hf0, HJ, HD, HR, HK⟩ := hrel
    obtain ⟨x1, x2⟩ := box_cells ((HK.out.block _ e1).trans HB.out.2)
    have HW : Hid (Below w.heap.size w wr) := below_trans HB.out.1 HK.out
    by_cases hlt : k < n.facts.length
    · have hlti : (k : Int) < (n.facts.length : Int) := by omega
      obtain ⟨x, hx⟩ : ∃ x, n.facts[k]? = some x := ⟨_, List.getElem?_eq_getElem hlt⟩
      obtain ⟨b1, o1, hfa, c1⟩ := (HH.out.1.below HW.out) k x hx
      have hrr := HD.out.2.2
      rw [rises_drop hx] at hrr
      simp only [Bool.and_eq_true, decide_eq_true_eq] at hrr
      obtain ⟨⟨hr1, hr2⟩, hr3⟩ := hrr
      have HX := (show Hid _ from And.intro hx hr3)
      have hd2 := HD.out.1
      rw [deltas_drop hx] at hd2
      have HD2 : Hid (deltas 0 n.facts = (pre ++ [x - fl]) ++ deltas (x + 1) (n.facts.drop (k + 1)) ∧ (pre ++ [x - fl]).length = k + 1) := ⟨by rw [hd2]; simp, by rw [List.length_append, HD.out.2.1]; rfl⟩
      have hpl : pre.length = k := HD.out.2.1
      have HPL := (show Hid _ from hpl)
      clear hx hr3 hd2 HD
      rcases Nat.eq_zero_or_pos k with h0 | h0
      · subst h0
        subst hfa
        obtain rfl := HJ.out.1 rfl
        obtain rfl := List.length_eq_zero_iff.1 hpl
        have c0 : wr.cell? ⟨b1, o1, none⟩ = some (.int .i64 x) := c1
        clear c1 hpl HPL
        go_wp2_with (at_builtin; refine wpAppI rfl _ _ rfl W1.heap.size (.slice la 1 lc) [(n.facts.length : Int)] rfl (HR.out.alloc _) (some ⟨wr.heap.size, 0, none⟩) 1 [x] rfl (fun h => by cases h) (ints_new wr x) (by simp) (by have := HK.out.size; simp; omega) ?_; intro a2 c2 W2 o2 g2)
        refine ⟨⟨1, x + 1, [x - 0], a2, c2, by omega, by go_num, rfl, by omega, ⟨fun h => by omega, fun j h => ?_⟩, ⟨by simpa using HD2.out.1, rfl, HX.out.2⟩, ?_, ?_⟩, by simp [intOf]; omega⟩
        · obtain rfl : j = 0 := by omega
          rw [HX.out.1]; congr 1; omega
        · show W2.ownsRow _ _ _ _ _ _
          simpa using o2
        · exact (HK.out.alloc HK.out.size _).grown g2 (by have := HK.out.size; simp; omega) (fun q hq => (HR.out.lt q hq).1)
      · obtain ⟨j, hj⟩ : ∃ j, k = j + 1 := ⟨k - 1, by omega⟩
        have hprev := HJ.out.2 j hj
        obtain ⟨b2, o2, h2, c2⟩ := (HH.out.1.below HW.out) j (fl - 1) hprev
        rw [hfa] at h2
        simp at h2
        obtain ⟨rfl, rfl⟩ := h2
        subst hfa
        clear hprev hpl
        obtain ⟨i0, hi, hz0, hz1, hz2⟩ := info_parts infoInt
        have HI := (show Hid _ from And.intro hi (And.intro hz0 (And.intro hz1 hz2)))
        clear hi hz0 hz1 hz2
        have hkm : (k : Int) - 1 = (j : Int) := by omega
        have hk0 : ((k : Int) == 0) = false := by rw [beq_eq_false_iff_ne]; omega
        have hjl : (j : Int) < (n.facts.length : Int) := by omega
        have hjl2 : j < n.facts.length := by omega
        have hw1 := wrap_i (j : Int) ⟨by omega, by omega⟩
        have hw2 := wrap_i (x - (fl - 1)) ⟨by omega, by omega⟩
        have hw3 := wrap_i (x - (fl - 1) - 1) ⟨by omega, by omega⟩
        have HJK := (show Hid _ from hj)
        clear hj
        have hl1 : ((n.facts.length : Int) :: pre).length + 1 ≤ maxLen := by have := HPL.out; simp only [List.length_cons, maxLen]; omega
        have hl2 : (((n.facts.length : Int) :: pre).length + 1) * 8 ≤ 140737488355328 := by have := HPL.out; simp only [List.length_cons]; omega
        have HLL := (show Hid _ from And.intro hl1 hl2)
        clear hl1 hl2
        go_wp2_with fail
        go_region_law (refine step_own2 rfl (.tmp 37) (.tmp 51) 47 rfl W1.heap.size 3 i0 (.int .i64 0) 1 8 Try.underlying47 HI.out.1 HI.out.2.1 HI.out.2.2.1 HI.out.2.2.2 rfl (by decide) (.slice la (k + 1) lc) ((n.facts.length : Int) :: pre).length (((n.facts.length : Int) :: pre).map (Value.int .i64)) (by simp [Act.eval, Act.put]) (by exact own_below HR.out (by repeat (first | with_reducible exact Below.refl _ _ | with_reducible refine below_drewN ?_ _ | with_reducible refine Below.drew ?_ | refine Below.alloc ?_ (by first | (simp; done) | (simp; omega)) _))) ⟨wr.heap.size, 0, none⟩ 1 1 [.int .i64 (x - (fl - 1) - 1)] (by simp [Act.eval, Act.put]) rfl (by exact cell_one_at _ _ _ _ (by simp)) (by intro u hu; simp at hu; subst hu; rfl) HLL.out.1 HLL.out.2 (by have := HK.out.size; simp; omega) ?_; intro v4 W4 hown4 hgrow4 hnew4; obtain ⟨a4, c4, rfl⟩ := sl_of_own hown4)
        all_goals
          have hB4 := below_from HK.out hgrow4 (fun q hq => (HR.out.lt q hq).1) (by repeat (first | with_reducible exact Below.refl _ _ | with_reducible refine below_drewN ?_ _ | with_reducible refine Below.drew ?_ | refine Below.alloc ?_ (by first | (simp; done) | (simp; omega)) _))
          have H4 := (show Hid _ from And.intro hown4 hB4)
          clear hown4 hgrow4 hnew4 hB4 c1 c2 x1 x2
          go_wp2_with fail
          go_roundw
          case rel =>
            refine ⟨k + 1, x + 1, pre ++ [x - fl], a4, c4, by omega, by go_num, by rw [HPL.out], by omega, ⟨fun h => by omega, fun i h => ?_⟩, ⟨HD2.out.1, HD2.out.2, HX.out.2⟩, ?_, H4.out.2⟩
            · obtain rfl : i = k := by omega
              rw [HX.out.1]; congr 1; omega
            · show World.ownsRow _ _ _ _ _ _ _
              have h4 := H4.out.1
              rw [show x - (fl - 1) - 1 = x - fl by omega, List.length_cons, HPL.out] at h4
              rw [List.length_cons, HD2.out.2]
              simpa using h4
          case measure => simp [intOf]; omega
    · obtain rfl : k = n.facts.length := by omega
      have hlti : ¬ (n.facts.length : Int) < (n.facts.length : Int) := by omega
      have hdd := HD.out.1
      rw [List.drop_length] at hdd
      simp only [deltas, List.append_nil] at hdd
      have HL : Hid (setB n = (((n.facts.length : Int) :: pre) ++ n.ranks).flatMap cntI ∧ ((n.facts.length : Int) :: pre).length = n.facts.length + 1 ∧ ∀ y ∈ ((n.facts.length : Int) :: pre) ++ n.ranks, 0 ≤ y ∧ y ≤ 100001) := by
        refine ⟨by rw [setB_flat, hdd], by rw [List.length_cons, HD.out.2.1], fun y hy => ?_⟩
        rcases List.mem_append.1 hy with h | h
        · rcases List.mem_cons.1 h with h | h
          · subst h; omega
          · rw [← hdd] at h
            have := deltas_le n.facts 0 (by omega) HO.out.1 y h
            omega
        · have := HO.out.2 y h
          omega
      clear hdd HD HJ hf0
      generalize ((n.facts.length : Int) :: pre) = L at HL HR
      clear e1
      go_wp2_with (at_builtin; refine wpAppI rfl _ _ rfl W1.heap.size (.slice la (n.facts.length + 1) lc) L rfl HR.out ra rc n.ranks rfl HH.out.2.2 (HH.out.2.1.below HW.out) (by have := HL.out.2.1; omega) HK.out.size ?_; intro a2 c2 W2 o2 g2; have H2 := (show Hid _ from And.intro o2 (below_from HK.out g2 (fun q hq => (HR.out.lt q hq).1) (Below.refl _ _))); clear o2 g2)
      clear x1 x2 HR HK HW
      have hLLn : (L ++ n.ranks).length ≤ 300000 := by have := HL.out.2.1; rw [List.length_append]; omega
      rw [← List.length_append] at H2
      rw [← List.length_append]
      generalize L ++ n.ranks = LL at H2 HL hLLn
      go_loopw [5, 8] (fun bv i wr => ∃ (k : Nat) (q : List UInt8) (ba : Option Addr) (bc : Nat), k ≤ LL.length ∧ i = .int .i64 k ∧ bv = .slice ba q.length bc ∧ Hid (q ++ (LL.drop k).flatMap cntI = setB n) ∧ Hid (wr.ownsRow W1.heap.size 5 1 (.slice ba q.length bc) q.length (Lib.byteCells q)) ∧ Hid (wr.ownsRow W1.heap.size 3 1 (.slice a2 LL.length c2) LL.length (LL.map (Value.int .i64))) ∧ Hid (Below W1.heap.size W1 wr)) (fun _ i _ => LL.length - (intOf i).toNat)
      case atStart => exact ⟨0, [], none, 0, Nat.zero_le _, rfl, rfl, by show _ = _; rw [HL.out.1]; simp, World.ownsRow_nil _ _ _ _, H2.out.1, H2.out.2⟩
      case round =>
        clear H2
        obtain ⟨k, q, ba, bc, hk, rfl, rfl, HQ, HR, HI, HK⟩ := hrel
        by_cases hlt : k < LL.length
        · have hlti : (k : Int) < (LL.length : Int) := by omega
          obtain ⟨x, hx⟩ : ∃ x, LL[k]? = some x := ⟨_, List.getElem?_eq_getElem hlt⟩
          obtain ⟨b1, o1, rfl, c1⟩ := (ints_own HI.out) k x hx
          obtain ⟨hx1, hx2⟩ := HL.out.2.2 x (List.mem_of_getElem? hx)
          obtain ⟨xn, rfl⟩ := Int.eq_ofNat_of_zero_le hx1
          have hxn : xn < 18446744073709551616 := by omega
          have HX := (show Hid _ from And.intro hx (And.intro (rcount_any xn xn (Nat.le_refl _) hxn) (cnt_le10 hxn)))
          have hql : q.length ≤ 2100000 := by
            have h1 := congrArg List.length HQ.out
            simp only [List.length_append] at h1
            omega
          clear hx
          go_wp2_with (first
            | (at_builtin; have _ := H3; refine wpApp rfl _ _ rfl W1.heap.size (.slice ba q.length bc) q rfl H3.out.1 g3 c3 (cnt xn) rfl H3.out.2.2.1 (by have := HX.out.2.2; omega) H3.out.2.2.2.2.size ?_; intro a4 c4 W4 o4 g4)
            | (go_at_call 26; refine (HX.out.2.1 _).mono ?_; clear c1; rintro e W3 ⟨u3, rfl, o3, b3⟩; obtain ⟨g3, c3, rfl, hg3, hc3⟩ := own_news o3 (cnt_ne xn); have H3 := (show Hid _ from And.intro (own_below HR.out b3) (And.intro (own_below HI.out b3) (And.intro hc3 (And.intro hg3 (below_trans HK.out b3))))); clear o3 b3 hc3))
          refine ⟨⟨k + 1, q ++ cnt xn, a4, c4, by omega, by go_num, by rw [List.length_append], ?_, by rw [List.length_append] at o4 ⊢; exact o4, H3.out.2.1.kept g4 (own_ne_ty H3.out.2.1 H3.out.1 (by decide)), below_from H3.out.2.2.2.2 g4 (fun j hj => (H3.out.1.lt j hj).1) (Below.refl _ _)⟩, by simp [intOf]; omega⟩
          show _ = _
          rw [← HQ.out, flat_drop cntI LL k _ HX.out.1]
          simp [cntI]
        · obtain rfl : k = LL.length := by omega
          have hlti : ¬ (LL.length : Int) < (LL.length : Int) := by omega
          have hq := HQ.out
          rw [List.drop_length] at hq
          simp only [List.flatMap_nil, List.append_nil] at hq
          subst hq
          go_wp2_with fail
          go_ret
          exact ⟨_, rfl, own_mono HR.out HB.out.1.size, below_trans HB.out.1 HK.out⟩
end Go.Proofs.Ytmipbiligijcpaa
