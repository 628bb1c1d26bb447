/- The program's writer: sets, environments, nodes. -/
import Derived.Test.YtmipbiligijcpaaH5
namespace Go.Proofs.Ytmipbiligijcpaa
set_option linter.unusedVariables false
set_option linter.unusedSimpArgs false
open Go.RowKit Go.Proofs Go.Maps

theorem deltas_le : ∀ (fs : List Int) (fl : Int), 0 ≤ fl → rises fl fs = true → ∀ x ∈ deltas fl fs, 0 ≤ x ∧ x ≤ 100000
  | [], _, _, _, x, hx => by simp [deltas] at hx
  | f :: r, fl, h0, h, x, hx => by
    simp [rises] at h
    obtain ⟨⟨h1, h2⟩, h3⟩ := h
    simp [deltas] at hx
    rcases hx with rfl | hx
    · omega
    · exact deltas_le r (f + 1) (by omega) h3 x hx
theorem cntI_le {x : Int} (h : x ≤ 100000) : (cntI x).length ≤ 10 := cnt_le10 (by omega)
theorem deltas_len : ∀ (fs : List Int) (fl : Int), (deltas fl fs).length = fs.length
  | [], _ => rfl
  | _ :: r, _ => by simp [deltas, deltas_len r]
theorem okSet_parts {g : Int} {n : Nd} (h : okSet g n = true) : rises 0 n.facts = true ∧ okRanks g n.ranks n.facts.length = true := by
  unfold okSet at h
  simp only [Bool.and_eq_true] at h
  exact ⟨h.1.2, h.2⟩
theorem ranks_all {g : Int} {n : Nd} (h : okSet g n = true) : ∀ r ∈ n.ranks, 0 ≤ r ∧ r ≤ 100000 := by
  intro r hr
  have h2 := (okSet_parts h).2
  unfold okRanks at h2
  split at h2
  · simp only [Bool.and_eq_true, List.all_eq_true] at h2
    have := h2.2 r hr
    simp [rk] at this
    omega
  · rw [List.isEmpty_iff] at h2
    rw [h2] at hr
    cases hr
theorem ranks_len {g : Int} {n : Nd} (h : okSet g n = true) : n.ranks.length ≤ n.facts.length := by
  have h2 := (okSet_parts h).2
  unfold okRanks at h2
  split at h2
  · simp only [Bool.and_eq_true, decide_eq_true_eq] at h2
    omega
  · rw [List.isEmpty_iff] at h2
    rw [h2]; simp
theorem okSet_rises {g : Int} {n : Nd} (h : okSet g n = true) : rises 0 n.facts = true := by
  exact (okSet_parts h).1
theorem setB_le {g : Int} {n : Nd} (h : okSet g n = true) : (setB n).length ≤ 2100000 := by
  have h1 := rises_len (okSet_rises h)
  have h2 := ranks_len h
  have h3 := flat_len cntI 10 (deltas 0 n.facts) (fun x hx => cntI_le (deltas_le _ 0 (by omega) (okSet_rises h) x hx).2)
  have h4 := flat_len cntI 10 n.ranks (fun x hx => cntI_le (ranks_all h x hx).2)
  have h5 := @cnt_le10 n.facts.length (by omega)
  rw [deltas_len] at h3
  simp only [setB, List.length_append]
  omega
theorem flat_drop {α : Type} (f : α → List UInt8) (l : List α) (k : Nat) (x : α) (h : l[k]? = some x) : (l.drop k).flatMap f = f x ++ (l.drop (k + 1)).flatMap f := by
  have hl := List.getElem?_eq_some_iff.1 h
  rw [List.drop_eq_getElem_cons hl.1, hl.2]
  simp
theorem deltas_drop {fl : Int} {fs : List Int} {k : Nat} {f : Int} (h : fs[k]? = some f) : deltas fl (fs.drop k) = (f - fl) :: deltas (f + 1) (fs.drop (k + 1)) := by
  have hl := List.getElem?_eq_some_iff.1 h
  rw [List.drop_eq_getElem_cons hl.1, hl.2]; rfl
theorem ints_under {w w' : World} {B : Nat} {ao : Option Addr} {xs : List Int} (h : IntsAt w ao xs) (hB : w.heap.size ≤ B) (hb : Below B w w') : IntsAt w' ao xs := h.below (hb.mono hB)
set_option maxHeartbeats 1000000 in
set_option maxRecDepth 100000 in
theorem set_any (B b : Nat) (l : List UInt8) (g : Int) (fa ra va : Option Addr) (fc rc vc : Nat) (n : Nd) (w : World) (h : Wr w B b l) (hf : ∀ W, Below B w W → IntsAt W fa n.facts) (hr : ∀ W, Below B w W → IntsAt W ra n.ranks) (hok : okSet g n = true) (hlen : l.length + 3000000 ≤ 140737488355328) :
    Calls Try.prog 51 #[.pointer (some ⟨b, 0, none⟩), .agg #[.slice fa n.facts.length fc, .slice ra n.ranks.length rc, .bool n.reached, .int .i64 n.rank, .slice va n.vals.length vc]] w fun e w' => e = .returned (.tuple #[]) ∧ Wrote w w' B b (l ++ setB n) := by
  have hsz := setB_le hok
  have hfl := rises_len (okSet_rises hok)
  have hrl := ranks_len hok
  have HF : Hid ((∀ W, Below B w W → IntsAt W fa n.facts) ∧ (∀ W, Below B w W → IntsAt W ra n.ranks)) := ⟨hf, hr⟩
  have HO : Hid (rises 0 n.facts = true ∧ ∀ r ∈ n.ranks, 0 ≤ r ∧ r ≤ 100000) := ⟨okSet_rises hok, ranks_all hok⟩
  have H := (show Hid _ from h.wrote.alloc (.cells #[.slice fa n.facts.length fc, .slice ra n.ranks.length rc, .bool n.reached, .int .i64 n.rank, .slice va n.vals.length vc] 50))
  have HT : Hid ((l ++ setB n).length ≤ 140737488355328) := by show _ ≤ _; simp only [List.length_append]; omega
  clear h hf hr hok
  go_enter Try.func51, Try.ntmps51
  go_wp2_with (go_at_call 37; refine (small_any B b l n.facts.length _ H.out.wr (by omega) (by omega) (by have := @cnt_le10 n.facts.length (by omega); simp only [List.length_append, cntI, Int.toNat_natCast]; omega)).mono ?_; rintro e W1 ⟨rfl, h1⟩; have k1 := h1.box H.out.wr (heap_alloc_new w _) (by decide) (by decide); obtain ⟨x1, x2⟩ := box_cells k1; have H1 := (show Hid _ from And.intro h1 k1); clear h1 k1)
  clear x1 x2
  go_loopw [4, 17] (fun fl i wr => ∃ (k : Nat) (f : Int) (q : List UInt8), k ≤ n.facts.length ∧ i = .int .i64 k ∧ fl = .int .i64 f ∧ 0 ≤ f ∧ f ≤ 100001 ∧ Hid (rises f (n.facts.drop k) = true) ∧ Hid (q ++ ((deltas f (n.facts.drop k)).flatMap cntI ++ n.ranks.flatMap cntI) = l ++ setB n) ∧ Hid (Wrote w wr B b q ∧ wr.heap[w.heap.size]? = some (.cells #[.slice fa n.facts.length fc, .slice ra n.ranks.length rc, .bool n.reached, .int .i64 n.rank, .slice va n.vals.length vc] 50 (0, 0)))) (fun _ i _ => n.facts.length - (intOf i).toNat)
  case atStart =>
    refine ⟨0, 0, l ++ cntI n.facts.length, Nat.zero_le _, rfl, rfl, by omega, by omega, HO.out.1, ?_, H.out.trans H1.out.1, H1.out.2⟩
    show _ = _
    simp [setB, cntI]
  case round =>
    clear H H1
    obtain ⟨k, fl, q, hk, rfl, rfl, hf0, hf1, HR, HQ, HW⟩ := hrel
    obtain ⟨x1, x2⟩ := box_cells HW.out.2
    by_cases hlt : k < n.facts.length
    · have hlti : (k : Int) < (n.facts.length : Int) := by omega
      obtain ⟨x, hx⟩ : ∃ x, n.facts[k]? = some x := ⟨_, List.getElem?_eq_getElem hlt⟩
      obtain ⟨b1, o1, rfl, c1⟩ := HF.out.1 wr HW.out.1.below k x hx
      have hrr := HR.out
      rw [rises_drop hx] at hrr
      simp only [Bool.and_eq_true, decide_eq_true_eq] at hrr
      obtain ⟨⟨hr1, hr2⟩, hr3⟩ := hrr
      have hq : (q ++ cntI (x - fl)).length ≤ 140737488355328 := by
        have h1 := congrArg List.length HQ.out
        have h2 := HT.out
        rw [deltas_drop hx] at h1
        simp only [List.flatMap_cons, List.length_append] at h1 h2 ⊢
        omega
      have HX : Hid (n.facts[k]? = some x ∧ rises (x + 1) (n.facts.drop (k + 1)) = true ∧ (q ++ cntI (x - fl)).length ≤ 140737488355328) := ⟨hx, hr3, hq⟩
      clear hx hr3 hq
      go_wp2_with (go_at_call 37; refine (small_any B b q (x - fl) _ HW.out.1.wr (by omega) (by omega) HX.out.2.2).mono ?_; rintro e W2 ⟨rfl, h2⟩; have H2 := (show Hid _ from h2); clear h2)
      refine ⟨⟨k + 1, x + 1, q ++ cntI (x - fl), by omega, by go_num, by go_num, by omega, by omega, HX.out.2.1, ?_, HW.out.1.trans H2.out, H2.out.box HW.out.1.wr HW.out.2 (by decide) (by decide)⟩, by simp [intOf]; omega⟩
      show _ = _
      rw [← HQ.out, deltas_drop HX.out.1]
      simp
    · obtain rfl : k = n.facts.length := by omega
      have hlti : ¬ (n.facts.length : Int) < (n.facts.length : Int) := by omega
      have hq := HQ.out
      rw [List.drop_length] at hq
      simp only [deltas, List.flatMap_nil, List.nil_append] at hq
      have HQ2 := (show Hid _ from hq)
      clear hq HQ HR
      go_wp2_with fail
      clear x1 x2
      go_loopw [32] (fun i wx => ∃ (k : Nat) (q : List UInt8), k ≤ n.ranks.length ∧ i = .int .i64 k ∧ Hid (q ++ (n.ranks.drop k).flatMap cntI = l ++ setB n) ∧ Hid (Wrote w wx B b q)) (fun i _ => n.ranks.length - (intOf i).toNat)
      case atStart => exact ⟨0, q, Nat.zero_le _, rfl, by simpa using HQ2, HW.out.1⟩
      case round =>
        clear HW HQ2
        obtain ⟨k, q, hk, rfl, HQ, HW⟩ := hrel
        by_cases hlt : k < n.ranks.length
        · have hlti : (k : Int) < (n.ranks.length : Int) := by omega
          obtain ⟨x, hx⟩ : ∃ x, n.ranks[k]? = some x := ⟨_, List.getElem?_eq_getElem hlt⟩
          obtain ⟨b1, o1, rfl, c1⟩ := HF.out.2 _ HW.out.below k x hx
          obtain ⟨hr1, hr2⟩ := HO.out.2 x (List.mem_of_getElem? hx)
          have hq : (q ++ cntI x).length ≤ 140737488355328 := by
            have h1 := congrArg List.length HQ.out
            have h2 := HT.out
            rw [flat_drop cntI n.ranks k x hx] at h1
            simp only [List.length_append] at h1 h2 ⊢
            omega
          have HX : Hid (n.ranks[k]? = some x ∧ (q ++ cntI x).length ≤ 140737488355328) := ⟨hx, hq⟩
          clear hx hq
          go_wp2_with (go_at_call 37; refine (small_any B b q x _ HW.out.wr (by omega) (by omega) HX.out.2).mono ?_; rintro e W2 ⟨rfl, h2⟩; have H2 := (show Hid _ from h2); clear h2)
          refine ⟨⟨k + 1, q ++ cntI x, by omega, by go_num, ?_, HW.out.trans H2.out⟩, by simp [intOf]; omega⟩
          show _ = _
          rw [← HQ.out, flat_drop cntI n.ranks k x HX.out.1]
          simp
        · obtain rfl : k = n.ranks.length := by omega
          have hlti : ¬ (n.ranks.length : Int) < (n.ranks.length : Int) := by omega
          have hq := HQ.out
          rw [List.drop_length] at hq
          simp only [List.flatMap_nil, List.append_nil] at hq
          go_wp2_with fail
          go_end0
          exact ⟨rfl, by rw [← hq]; exact HW.out⟩
theorem okEnv_parts {p g : Int} {n : Nd} (h : okEnv p g n = true) : n.vals.length ≤ 8 ∧ 0 ≤ n.rank ∧ n.rank ≤ 100000 ∧ ∀ v ∈ n.vals, okVal p g n.rank v = true := by
  unfold okEnv at h
  simp only [Bool.and_eq_true, decide_eq_true_eq, List.all_eq_true, rk] at h
  exact ⟨h.1.1.1.2, h.1.1.2.1, h.1.1.2.2, h.2⟩
theorem valB_le {p g r : Int} {v : Vl} (h : okVal p g r v = true) (hv : VlIn v) : (valB p g v).length ≤ 40 := by
  have h1 := sgn_le hv.lo
  have h2 := sgn_le hv.first
  unfold valB
  split
  · have hd : (v.hi - v.lo).toNat < 18446744073709551616 := by obtain ⟨a1, a2⟩ := hv.lo; obtain ⟨b1, b2⟩ := hv.hi; omega
    have := cnt_le10 hd
    simp only [List.length_append]; omega
  · split
    · simp only [List.length_cons]; omega
    · split
      · split
        · have h3 : (cntI v.rank).length ≤ 10 := cnt_le10 (by obtain ⟨a1, a2⟩ := hv.rank; omega)
          simp only [List.length_cons, List.length_append]; omega
        · simp
      · simp
theorem envB_le {p g : Int} {n : Nd} (h : okEnv p g n = true) (hn : NdIn n) : (envB p g n).length ≤ 400 := by
  obtain ⟨h1, h2, h3, h4⟩ := okEnv_parts h
  have h5 := flat_len (valB p g) 40 n.vals (fun v hv => valB_le (h4 v hv) (hn.vals v hv))
  have h6 := @cnt_le10 n.vals.length (by omega)
  have h7 := cntI_le h3
  unfold envB
  split <;> simp only [List.length_append, List.length_nil] <;> omega
theorem okVal_six {g r : Int} {v : Vl} (h : okVal 6 g r v = true) : v.lo ≤ v.hi := by
  unfold okVal at h
  simp at h
  exact h.2
set_option maxHeartbeats 1000000 in
set_option maxRecDepth 100000 in
theorem environment_any (B b : Nat) (l : List UInt8) (p g : Int) (fa ra va : Option Addr) (fc rc vc : Nat) (n : Nd) (w : World) (h : Wr w B b l) (hv : ∀ W, Below B w W → ValsAt W va n.vals) (hn : NdIn n) (hok : okEnv p g n = true) (hlen : l.length + 3000000 ≤ 140737488355328) :
    Calls Try.prog 53 #[.pointer (some ⟨b, 0, none⟩), .agg #[.int .i64 p, .int .i64 g], .agg #[.slice fa n.facts.length fc, .slice ra n.ranks.length rc, .bool n.reached, .int .i64 n.rank, .slice va n.vals.length vc]] w fun e w' => e = .returned (.tuple #[]) ∧ Wrote w w' B b (l ++ envB p g n) := by
  have hsz := envB_le hok hn
  obtain ⟨h8, hr1, hr2, hvok⟩ := okEnv_parts hok
  have HF : Hid ((∀ W, Below B w W → ValsAt W va n.vals) ∧ (∀ v ∈ n.vals, okVal p g n.rank v = true ∧ VlIn v)) := ⟨hv, fun v hm => ⟨hvok v hm, hn.vals v hm⟩⟩
  have H := (show Hid _ from (h.wrote.alloc (.cells #[.int .i64 p, .int .i64 g] 80)).alloc (.cells #[.slice fa n.facts.length fc, .slice ra n.ranks.length rc, .bool n.reached, .int .i64 n.rank, .slice va n.vals.length vc] 50))
  have HT : Hid ((l ++ envB p g n).length ≤ l.length + 400) := by show _ ≤ _; simp only [List.length_append]; omega
  have HC : Hid ((cntI n.rank).length ≤ 10 ∧ (cntI n.vals.length).length ≤ 10) := ⟨cntI_le hr2, cntI_le (by omega)⟩
  clear h hv hn hok hvok
  cases hL : decide (g = 1) with
  | true =>
    have HE : Hid (envB p g n = cntI n.rank ++ (cntI n.vals.length ++ n.vals.flatMap (valB p g))) := by
      show _ = _
      have hg : g = 1 := by simpa using hL
      simp [envB, hg, cntI]
    go_enter Try.func53, Try.ntmps53
    have z1 : ((w.alloc (.cells #[.int .i64 p, .int .i64 g] 80)).alloc (.cells #[.slice fa n.facts.length fc, .slice ra n.ranks.length rc, .bool n.reached, .int .i64 n.rank, .slice va n.vals.length vc] 50)).heap.size = w.heap.size + 2 := by simp
    go_wp2_with (first
      | (go_at_call 67; refine (isLeast_any _ _ _).mono ?_; rw [hL]; rintro e w1 ⟨rfl, rfl⟩)
      | (go_at_call 37; refine (small_any B b (l ++ cntI n.rank) n.vals.length _ H1.out.1.wr (by omega) (by omega) (by have := HC.out.1; have := HC.out.2; simp only [List.length_append]; omega)).mono ?_; clear x1 x2 y1 y2; rintro e W2 ⟨rfl, h2⟩; have k1 := h2.box H1.out.1.wr (H1.out.2.1) (by decide) (by decide); have k2 := h2.box H1.out.1.wr (H1.out.2.2) (by decide) (by decide); obtain ⟨x1, x2⟩ := box_cells k1; obtain ⟨y1, y2⟩ := box_cells k2; have H2 := (show Hid _ from And.intro h2 (And.intro k1 k2)); clear h2 k1 k2)
      | (go_at_call 37; refine (small_any B b l n.rank _ (H.out.wr.alloc _) hr1 (by omega) (by have := HC.out.1; simp only [List.length_append]; omega)).mono ?_; rintro e W1 ⟨rfl, h1⟩; have k1 := h1.box (H.out.wr.alloc _) ((Below.heap_alloc _ _ _ (by simp; omega)).trans (alloc2 w _ _).1) (by decide) (by decide); have k2 := h1.box (H.out.wr.alloc _) ((Below.heap_alloc _ _ _ (by simp)).trans (alloc2 w _ _).2) (by decide) (by decide); obtain ⟨x1, x2⟩ := box_cells k1; obtain ⟨y1, y2⟩ := box_cells k2; have H1 := (show Hid _ from And.intro h1 (And.intro k1 k2)); clear h1 k1 k2))
    clear z1
    clear x1 x2 y1 y2 hL
    go_loopw [22] (fun i wr => ∃ (k : Nat) (q : List UInt8), k ≤ n.vals.length ∧ i = .int .i64 k ∧ Hid (q ++ (n.vals.drop k).flatMap (valB p g) = l ++ envB p g n) ∧ Hid (Wrote w wr B b q ∧ wr.heap[w.heap.size]? = some (.cells #[.int .i64 p, .int .i64 g] 80 (0, 0)))) (fun i _ => n.vals.length - (intOf i).toNat)
    case atStart =>
      refine ⟨0, l ++ cntI n.rank ++ cntI n.vals.length, Nat.zero_le _, rfl, ?_, ((H.out.alloc _).trans H1.out.1).trans H2.out.1, H2.out.2.1⟩
      show _ = _
      rw [HE.out]
      simp
    case round =>
      clear H H1 H2
      obtain ⟨k, q, hk, rfl, HQ, HW⟩ := hrel
      obtain ⟨x1, x2⟩ := box_cells HW.out.2
      have e1 := (Array.getElem?_eq_some_iff.1 HW.out.2).1
      by_cases hlt : k < n.vals.length
      · have hlti : (k : Int) < (n.vals.length : Int) := by omega
        obtain ⟨v, hx⟩ : ∃ v, n.vals[k]? = some v := ⟨_, List.getElem?_eq_getElem hlt⟩
        obtain ⟨b1, o1, rfl, c0, c1, c2, c3, c4, c5⟩ := HF.out.1 wr HW.out.1.below k v hx
        have hm := HF.out.2 v (List.mem_of_getElem? hx)
        have hq : q.length + 100 ≤ 140737488355328 := by
          have h1 := congrArg List.length HQ.out
          have h2 := HT.out
          simp only [List.length_append] at h1 h2 ⊢
          omega
        have HX := (show Hid _ from And.intro hx (And.intro hm (HW.out.1.alloc (.cells #[.int .i64 v.kind, .int .i64 v.lo, .int .i64 v.hi, .bool v.early, .int .i64 v.first, .int .i64 v.rank] 62))))
        clear hx hm
        by_cases h6 : p = 6
        · subst h6
          go_wp2_with (go_at_call 68; refine (bounds_any B b q v _ HX.out.2.2.wr HX.out.2.1.2 (okVal_six HX.out.2.1.1) hq).mono ?_; rintro e W2 ⟨rfl, h2⟩; have H2 := (show Hid _ from h2); clear h2)
          refine ⟨⟨k + 1, q ++ (sgn v.lo ++ cnt (v.hi - v.lo).toNat), by omega, by go_num, ?_, HX.out.2.2.trans H2.out, H2.out.box HX.out.2.2.wr ((Below.heap_alloc _ _ _ e1).trans HW.out.2) (by decide) (by decide)⟩, by simp [intOf]; omega⟩
          show _ = _
          rw [← HQ.out, flat_drop (valB 6 g) n.vals k v HX.out.1]
          simp [valB]
        · go_wp2_with (go_at_call 69; refine (value_any B b q p g n.rank v _ HX.out.2.2.wr HX.out.2.1.2 HX.out.2.1.1 h6 hr1 hq).mono ?_; rintro e W2 ⟨rfl, h2⟩; have H2 := (show Hid _ from h2); clear h2)
          refine ⟨⟨k + 1, q ++ valB p g v, by omega, by go_num, ?_, HX.out.2.2.trans H2.out, H2.out.box HX.out.2.2.wr ((Below.heap_alloc _ _ _ e1).trans HW.out.2) (by decide) (by decide)⟩, by simp [intOf]; omega⟩
          show _ = _
          rw [← HQ.out, flat_drop (valB p g) n.vals k v HX.out.1]
          simp
      · obtain rfl : k = n.vals.length := by omega
        have hlti : ¬ (n.vals.length : Int) < (n.vals.length : Int) := by omega
        have hq := HQ.out
        rw [List.drop_length] at hq
        simp only [List.flatMap_nil, List.append_nil] at hq
        go_wp2_with fail
        go_end0
        exact ⟨rfl, by rw [← hq]; exact HW.out.1⟩
  | false =>
    have HE : Hid (envB p g n = cntI n.vals.length ++ n.vals.flatMap (valB p g)) := by
      show _ = _
      have hg : ¬ g = 1 := by simpa using hL
      simp [envB, hg, cntI]
    go_enter Try.func53, Try.ntmps53
    have z1 : ((w.alloc (.cells #[.int .i64 p, .int .i64 g] 80)).alloc (.cells #[.slice fa n.facts.length fc, .slice ra n.ranks.length rc, .bool n.reached, .int .i64 n.rank, .slice va n.vals.length vc] 50)).heap.size = w.heap.size + 2 := by simp
    go_wp2_with (first
      | (go_at_call 67; refine (isLeast_any _ _ _).mono ?_; rw [hL]; rintro e w1 ⟨rfl, rfl⟩)
      | (go_at_call 37; refine (small_any B b l n.vals.length _ (H.out.wr.alloc _) (by omega) (by omega) (by have := HC.out.2; simp only [List.length_append]; omega)).mono ?_; rintro e W1 ⟨rfl, h1⟩; have k1 := h1.box (H.out.wr.alloc _) ((Below.heap_alloc _ _ _ (by simp; omega)).trans (alloc2 w _ _).1) (by decide) (by decide); have k2 := h1.box (H.out.wr.alloc _) ((Below.heap_alloc _ _ _ (by simp)).trans (alloc2 w _ _).2) (by decide) (by decide); obtain ⟨x1, x2⟩ := box_cells k1; obtain ⟨y1, y2⟩ := box_cells k2; have H1 := (show Hid _ from And.intro h1 (And.intro k1 k2)); clear h1 k1 k2))
    clear z1
    clear x1 x2 y1 y2 hL
    go_loopw [22] (fun i wr => ∃ (k : Nat) (q : List UInt8), k ≤ n.vals.length ∧ i = .int .i64 k ∧ Hid (q ++ (n.vals.drop k).flatMap (valB p g) = l ++ envB p g n) ∧ Hid (Wrote w wr B b q ∧ wr.heap[w.heap.size]? = some (.cells #[.int .i64 p, .int .i64 g] 80 (0, 0)))) (fun i _ => n.vals.length - (intOf i).toNat)
    case atStart =>
      refine ⟨0, l ++ cntI n.vals.length, Nat.zero_le _, rfl, ?_, (H.out.alloc _).trans H1.out.1, H1.out.2.1⟩
      show _ = _
      rw [HE.out]
      simp
    case round =>
      clear H H1
      obtain ⟨k, q, hk, rfl, HQ, HW⟩ := hrel
      obtain ⟨x1, x2⟩ := box_cells HW.out.2
      have e1 := (Array.getElem?_eq_some_iff.1 HW.out.2).1
      by_cases hlt : k < n.vals.length
      · have hlti : (k : Int) < (n.vals.length : Int) := by omega
        obtain ⟨v, hx⟩ : ∃ v, n.vals[k]? = some v := ⟨_, List.getElem?_eq_getElem hlt⟩
        obtain ⟨b1, o1, rfl, c0, c1, c2, c3, c4, c5⟩ := HF.out.1 wr HW.out.1.below k v hx
        have hm := HF.out.2 v (List.mem_of_getElem? hx)
        have hq : q.length + 100 ≤ 140737488355328 := by
          have h1 := congrArg List.length HQ.out
          have h2 := HT.out
          simp only [List.length_append] at h1 h2 ⊢
          omega
        have HX := (show Hid _ from And.intro hx (And.intro hm (HW.out.1.alloc (.cells #[.int .i64 v.kind, .int .i64 v.lo, .int .i64 v.hi, .bool v.early, .int .i64 v.first, .int .i64 v.rank] 62))))
        clear hx hm
        by_cases h6 : p = 6
        · subst h6
          go_wp2_with (go_at_call 68; refine (bounds_any B b q v _ HX.out.2.2.wr HX.out.2.1.2 (okVal_six HX.out.2.1.1) hq).mono ?_; rintro e W2 ⟨rfl, h2⟩; have H2 := (show Hid _ from h2); clear h2)
          refine ⟨⟨k + 1, q ++ (sgn v.lo ++ cnt (v.hi - v.lo).toNat), by omega, by go_num, ?_, HX.out.2.2.trans H2.out, H2.out.box HX.out.2.2.wr ((Below.heap_alloc _ _ _ e1).trans HW.out.2) (by decide) (by decide)⟩, by simp [intOf]; omega⟩
          show _ = _
          rw [← HQ.out, flat_drop (valB 6 g) n.vals k v HX.out.1]
          simp [valB]
        · go_wp2_with (go_at_call 69; refine (value_any B b q p g n.rank v _ HX.out.2.2.wr HX.out.2.1.2 HX.out.2.1.1 h6 hr1 hq).mono ?_; rintro e W2 ⟨rfl, h2⟩; have H2 := (show Hid _ from h2); clear h2)
          refine ⟨⟨k + 1, q ++ valB p g v, by omega, by go_num, ?_, HX.out.2.2.trans H2.out, H2.out.box HX.out.2.2.wr ((Below.heap_alloc _ _ _ e1).trans HW.out.2) (by decide) (by decide)⟩, by simp [intOf]; omega⟩
          show _ = _
          rw [← HQ.out, flat_drop (valB p g) n.vals k v HX.out.1]
          simp
      · obtain rfl : k = n.vals.length := by omega
        have hlti : ¬ (n.vals.length : Int) < (n.vals.length : Int) := by omega
        have hq := HQ.out
        rw [List.drop_length] at hq
        simp only [List.flatMap_nil, List.append_nil] at hq
        go_wp2_with fail
        go_end0
        exact ⟨rfl, by rw [← hq]; exact HW.out.1⟩
end Go.Proofs.Ytmipbiligijcpaa
