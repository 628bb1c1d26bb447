/- The program's writer: values, sets, environments, nodes. -/
import Derived.Test.YtmipbiligijcpaaH4
import Derived.Test.YtmipbiligijcpaaH3
namespace Go.Proofs.Ytmipbiligijcpaa
set_option linter.unusedVariables false
set_option linter.unusedSimpArgs false
open Go.RowKit Go.Proofs Go.Maps

theorem zig_lt {x : Int} (h : I64 x) : zig x < 18446744073709551616 := by
  obtain ⟨h1, h2⟩ := h
  unfold zig; split <;> omega
theorem sgn_le {x : Int} (h : I64 x) : (sgn x).length ≤ 10 := cnt_le10 (zig_lt h)
theorem wrap_sub {lo hi : Int} (hlh : lo ≤ hi) (hl : I64 lo) (hh : I64 hi) : IntKind.u64.wrap (IntKind.u64.wrap hi - IntKind.u64.wrap lo) = (((hi - lo).toNat : Nat) : Int) := by
  obtain ⟨hl1, hl2⟩ := hl
  obtain ⟨hh1, hh2⟩ := hh
  have e : ∀ n : Int, IntKind.u64.wrap n = n % 18446744073709551616 := fun n => by simp [IntKind.wrap, IntKind.bits, IntKind.signed]
  rw [e, e, e]
  omega
set_option maxHeartbeats 1000000 in
set_option maxRecDepth 100000 in
theorem bounds_any (B b : Nat) (l : List UInt8) (v : Vl) (w : World) (h : Wr w B b l) (hv : VlIn v) (hlh : v.lo ≤ v.hi) (hlen : l.length + 100 ≤ 140737488355328) :
    Calls Try.prog 68 #[.pointer (some ⟨b, 0, none⟩), .agg #[.int .i64 v.kind, .int .i64 v.lo, .int .i64 v.hi, .bool v.early, .int .i64 v.first, .int .i64 v.rank]] w fun e w' => e = .returned (.tuple #[]) ∧ Wrote w w' B b (l ++ (sgn v.lo ++ cnt (v.hi - v.lo).toNat)) := by
  obtain ⟨kind, lo, hi, early, first, rank⟩ := v
  obtain ⟨_, hl, hh, _, _⟩ := hv
  simp only at hlh hl hh ⊢
  have hd : (hi - lo).toNat < 18446744073709551616 := by obtain ⟨a1, a2⟩ := hl; obtain ⟨b1, b2⟩ := hh; omega
  have hwr := wrap_sub hlh hl hh
  generalize (hi - lo).toNat = d at hd hwr ⊢
  have H := (show Hid _ from And.intro h (And.intro (sgn_le hl) (And.intro (cnt_le10 hd) hl)))
  clear h hl hh
  go_enter Try.func68, Try.ntmps68
  go_wp2_with (first
    | (go_at_call 78; refine (number_any B b l lo _ (H.out.1.alloc _) H.out.2.2.2 (by have := H.out.2.1; simp only [List.length_append]; omega)).mono ?_; rintro e W1 ⟨rfl, h1⟩; obtain ⟨x1, x2⟩ := box_cells (h1.box (H.out.1.alloc _) (heap_alloc_new w _) (by decide) (by decide)); have H1 := (show Hid _ from h1); clear h1)
    | (go_at_call 49; refine (count_any B b (l ++ sgn lo) d _ H1.out.wr hd (by have := H.out.2.1; have := H.out.2.2.1; simp only [List.length_append]; omega)).mono ?_; rintro e W2 ⟨rfl, h2⟩; have H2 := (show Hid _ from h2); clear h2))
  go_end0
  refine ⟨rfl, ?_⟩
  have := (((H.out.1.wrote).alloc (.cells #[.int .i64 kind, .int .i64 lo, .int .i64 hi, .bool early, .int .i64 first, .int .i64 rank] 62)).trans H1.out).trans H2.out
  rwa [List.append_assoc] at this
set_option maxHeartbeats 1000000 in
set_option maxRecDepth 100000 in
theorem value_any (B b : Nat) (l : List UInt8) (p g r : Int) (v : Vl) (w : World) (h : Wr w B b l) (hv : VlIn v) (hok : okVal p g r v = true) (hp : p ≠ 6) (hr : 0 ≤ r) (hlen : l.length + 100 ≤ 140737488355328) :
    Calls Try.prog 69 #[.pointer (some ⟨b, 0, none⟩), .agg #[.int .i64 p, .int .i64 g], .agg #[.int .i64 v.kind, .int .i64 v.lo, .int .i64 v.hi, .bool v.early, .int .i64 v.first, .int .i64 v.rank]] w fun e w' => e = .returned (.tuple #[]) ∧ Wrote w w' B b (l ++ valB p g v) := by
  obtain ⟨kind, lo, hi, early, first, rank⟩ := v
  obtain ⟨_, hl, _, hf, hra⟩ := hv
  simp only at hl hf hra ⊢
  have hW := ((h.wrote.alloc (.cells #[.int .i64 p, .int .i64 g] 80)).alloc (.cells #[.int .i64 kind, .int .i64 lo, .int .i64 hi, .bool early, .int .i64 first, .int .i64 rank] 62))
  have H := (show Hid _ from And.intro hW (And.intro (sgn_le hl) (And.intro (sgn_le hf) (And.intro hl hf))))
  clear h hl hf hW
  have hk : (kind = 1 ∧ early = false) ∨ (kind = 2 ∧ (early = false ∨ (early = true ∧ g = 1 ∧ 0 ≤ rank ∧ rank ≤ 100000))) := by
    unfold okVal at hok
    rw [if_neg hp] at hok
    cases early with
    | true => simp [okEarly] at hok ⊢; omega
    | false => simp at hok ⊢; omega
  rcases hk with ⟨rfl, rfl⟩ | ⟨rfl, hk⟩
  · have HV : Hid (valB p g ⟨1, lo, hi, false, first, rank⟩ = 1 :: sgn lo) := by show _ = _; simp [valB, hp]
    clear hok
    go_enter Try.func69, Try.ntmps69
    go_wp2_with (first
      | (go_at_call 36; refine (octet_any B b l 1 _ H.out.1.wr (by omega)).mono ?_; rintro e W1 ⟨rfl, h1⟩; obtain ⟨x1, x2⟩ := box_cells (h1.box H.out.1.wr (alloc2 w _ _).1 (by decide) (by decide)); obtain ⟨y1, y2⟩ := box_cells (h1.box H.out.1.wr (alloc2 w _ _).2 (by decide) (by decide)); have H1 := (show Hid _ from h1); clear h1)
      | (go_at_call 78; refine (number_any B b (l ++ [1]) lo _ H1.out.wr H.out.2.2.2.1 (by have := H.out.2.1; simp only [List.length_append, List.length_singleton]; omega)).mono ?_; rintro e W2 ⟨rfl, h2⟩; have H2 := (show Hid _ from h2); clear h2))
    (try simp only [Exit.inBlock, Exit.then]); refine bodyPost_ret (results_none rfl _ _ _) rfl ?_
    refine ⟨rfl, ?_⟩
    rw [HV.out]
    have := (H.out.1.trans H1.out).trans H2.out
    rwa [List.append_assoc] at this
  · cases hL : decide (g = 1) with
    | false =>
      have hg : ¬ g = 1 := by simpa using hL
      have HV : Hid (valB p g ⟨2, lo, hi, early, first, rank⟩ = [2]) := by show _ = _; simp [valB, hp, hg]
      clear hok hk hg
      go_enter Try.func69, Try.ntmps69
      go_wp2_with (first
        | (go_at_call 36; refine (octet_any B b l 2 _ H.out.1.wr (by omega)).mono ?_; rintro e W1 ⟨rfl, h1⟩; obtain ⟨x1, x2⟩ := box_cells (h1.box H.out.1.wr (alloc2 w _ _).1 (by decide) (by decide)); obtain ⟨y1, y2⟩ := box_cells (h1.box H.out.1.wr (alloc2 w _ _).2 (by decide) (by decide)); have H1 := (show Hid _ from h1); clear h1)
        | (go_at_call 67; refine (isLeast_any _ _ _).mono ?_; rw [hL]; rintro e w1 ⟨rfl, rfl⟩))
      (try simp only [Exit.inBlock, Exit.then]); refine bodyPost_ret (results_none rfl _ _ _) rfl ?_
      refine ⟨rfl, ?_⟩
      rw [HV.out]
      exact (H.out.1.trans H1.out).alloc _
    | true =>
      have hg : g = 1 := by simpa using hL
      cases early with
      | false =>
        have HV : Hid (valB p g ⟨2, lo, hi, false, first, rank⟩ = [2] ++ [if false = true then 1 else 0]) := by show _ = _; simp [valB, hp, hg]
        clear hok hk hg
        go_enter Try.func69, Try.ntmps69
        go_wp2_with (first
          | (go_at_call 36; refine (octet_any B b l 2 _ H.out.1.wr (by omega)).mono ?_; rintro e W1 ⟨rfl, h1⟩; have k1 := h1.box H.out.1.wr (alloc2 w _ _).1 (by decide) (by decide); have k2 := h1.box H.out.1.wr (alloc2 w _ _).2 (by decide) (by decide); obtain ⟨x1, x2⟩ := box_cells k1; obtain ⟨y1, y2⟩ := box_cells k2; have e1 := (Array.getElem?_eq_some_iff.1 k1).1; have e2 := (Array.getElem?_eq_some_iff.1 k2).1; have H1 := (show Hid _ from And.intro h1 (And.intro k1 k2)); clear h1 k1 k2)
          | (go_at_call 67; refine (isLeast_any _ _ _).mono ?_; rw [hL]; rintro e w1 ⟨rfl, rfl⟩)
          | (go_at_call 52; refine (flag_any B b (l ++ [2]) false _ (H1.out.1.wr.alloc _) (by simp only [List.length_append, List.length_singleton]; omega)).mono ?_; rintro e W2 ⟨rfl, h2⟩; obtain ⟨z1, z2⟩ := box_cells (h2.box (H1.out.1.wr.alloc _) ((Below.heap_alloc _ _ _ e2).trans H1.out.2.2) (by decide) (by decide)); have H2 := (show Hid _ from h2); clear h2 x1 x2 y1 y2))
        go_end0
        refine ⟨rfl, ?_⟩
        rw [HV.out]
        have := ((H.out.1.trans H1.out.1).alloc (.cells #[.int .i64 p, .int .i64 g] 80)).trans H2.out
        rwa [List.append_assoc] at this
      | true =>
        have hr2 : 0 ≤ rank ∧ rank ≤ 100000 := by rcases hk with h | h; cases h; exact h.2.2
        have HV : Hid (valB p g ⟨2, lo, hi, true, first, rank⟩ = [2] ++ [if true = true then 1 else 0] ++ sgn first ++ cntI rank ∧ (cntI rank).length ≤ 10) := by
          refine ⟨by simp [valB, hp, hg], cnt_le10 (by omega)⟩
        clear hok hk hg
        go_enter Try.func69, Try.ntmps69
        go_wp2_with (first
          | (go_at_call 36; refine (octet_any B b l 2 _ H.out.1.wr (by omega)).mono ?_; rintro e W1 ⟨rfl, h1⟩; have k1 := h1.box H.out.1.wr (alloc2 w _ _).1 (by decide) (by decide); have k2 := h1.box H.out.1.wr (alloc2 w _ _).2 (by decide) (by decide); obtain ⟨x1, x2⟩ := box_cells k1; obtain ⟨y1, y2⟩ := box_cells k2; have e1 := (Array.getElem?_eq_some_iff.1 k1).1; have e2 := (Array.getElem?_eq_some_iff.1 k2).1; have H1 := (show Hid _ from And.intro h1 (And.intro k1 k2)); clear h1 k1 k2)
          | (go_at_call 67; refine (isLeast_any _ _ _).mono ?_; rw [hL]; rintro e w1 ⟨rfl, rfl⟩)
          | (go_at_call 52; refine (flag_any B b (l ++ [2]) true _ (H1.out.1.wr.alloc _) (by simp only [List.length_append, List.length_singleton]; omega)).mono ?_; rintro e W2 ⟨rfl, h2⟩; have k2 := h2.box (H1.out.1.wr.alloc _) ((Below.heap_alloc _ _ _ e2).trans H1.out.2.2) (by decide) (by decide); obtain ⟨z1, z2⟩ := box_cells k2; have H2 := (show Hid _ from And.intro h2 k2); clear h2 k2 x1 x2 y1 y2)
          | (go_at_call 78; refine (number_any B b (l ++ [2] ++ [if true = true then 1 else 0]) first _ H2.out.1.wr H.out.2.2.2.2 (by have := H.out.2.2.1; simp only [List.length_append, List.length_singleton]; omega)).mono ?_; rintro e W3 ⟨rfl, h3⟩; obtain ⟨u1, u2⟩ := box_cells (h3.box H2.out.1.wr H2.out.2 (by decide) (by decide)); have H3 := (show Hid _ from h3); clear h3 z1 z2)
          | (go_at_call 37; refine (small_any B b (l ++ [2] ++ [if true = true then 1 else 0] ++ sgn first) rank _ H3.out.wr hr2.1 (by omega) (by have := H.out.2.2.1; have := HV.out.2; simp only [List.length_append, List.length_singleton]; omega)).mono ?_; rintro e W4 ⟨rfl, h4⟩; have H4 := (show Hid _ from h4); clear h4))
        go_end0
        refine ⟨rfl, ?_⟩
        rw [HV.out.1]
        have := ((((H.out.1.trans H1.out.1).alloc (.cells #[.int .i64 p, .int .i64 g] 80)).trans H2.out.1).trans H3.out).trans H4.out
        simpa only [List.append_assoc] using this
end Go.Proofs.Ytmipbiligijcpaa
