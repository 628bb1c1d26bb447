/- The program's reader: a value of an environment of constants. -/
import Derived.Test.YtmipbiligijcpaaN5
namespace Go.Proofs.Ytmipbiligijcpaa
set_option linter.unusedVariables false
set_option linter.unusedSimpArgs false
open Go.RowKit Go.Proofs Go.Maps

def rearly (l : List UInt8) : Option (Vl × List UInt8) := match rnum l with
  | some (x, r) => match rsm 100000 r with
    | some (k, q) => some (⟨2, 0, 0, true, x, (k : Int)⟩, q)
    | none => none
  | none => none
def rval (g : Int) (l : List UInt8) : Option (Vl × List UInt8) := match l with
  | b :: r =>
    if b.toNat = 1 then (match rnum r with | some (x, q) => some (⟨1, x, 0, false, 0, 0⟩, q) | none => none)
    else if b.toNat = 2 then
      (if g = 1 then (match rflag r with | some (f, q) => if f then rearly q else some (⟨2, 0, 0, false, 0, 0⟩, q) | none => none) else some (⟨2, 0, 0, false, 0, 0⟩, r))
    else none
  | [] => none
theorem oct_inv {bad : Bool} {s : ByteArray} {b : UInt8} {r : List UInt8} (h : ifG bad roct s = some (b, r)) : bad = false ∧ s.data.toList = b :: r := by
  unfold ifG roct at h
  cases bad with
  | true => cases h
  | false =>
    refine ⟨rfl, ?_⟩
    simp only [Bool.false_eq_true, if_false] at h
    split at h
    · rename_i b2 r2 he
      simp at h
      rw [he, h.1, h.2]
    · cases h
theorem oct_none {bad : Bool} {s : ByteArray} (g : Int) (h : ifG bad roct s = none) : ifG bad (rval g) s = none := by
  unfold ifG at h ⊢
  cases bad with
  | true => rfl
  | false =>
    simp only [Bool.false_eq_true, if_false] at h ⊢
    cases hl : s.data.toList with
    | nil => rfl
    | cons a r => rw [hl] at h; simp [roct] at h
set_option maxHeartbeats 2000000 in
set_option maxRecDepth 100000 in
theorem pvalue_any (rb : Nat) (s : ByteArray) (bad : Bool) (p g : Int) (w : World) (h : Rdr w rb s bad) (hs : s.size ≤ 60000) :
    Calls Try.prog 85 #[.pointer (some ⟨rb, 0, none⟩), .agg #[.int .i64 p, .int .i64 g]] w fun e w' => RdP w' rb s (ifG bad (rval g) s) vlV (fun z => ∃ v, z = vlV v) e ∧ w.grownBy w' (some rb) := by
  have hlt := h.lt
  have hc := fun (W : World) (h2 : Rdr W rb s bad) => poctet_any rb s bad W h2 hs
  have HR := (show Hid _ from And.intro hc h)
  clear h hc
  go_enter Try.func85, Try.ntmps85
  go_wp2_with fail
  refine Calls.mono (HR.out.1 _ ((HR.out.2.alloc _).alloc _)) ?_
  rintro e W1 ⟨h1, g1⟩
  have hb1 := box_kept (alloc2 w (.cells #[.int .i64 p, .int .i64 g] 80) (.cells #[.int .i64 0, .int .i64 0, .int .i64 0, .bool false, .int .i64 0, .int .i64 0] 62)).1 g1 (by omega)
  have hb2 := box_kept (alloc2 w (.cells #[.int .i64 p, .int .i64 g] 80) (.cells #[.int .i64 0, .int .i64 0, .int .i64 0, .bool false, .int .i64 0, .int .i64 0] 62)).2 g1 (by omega)
  have g0 := grown_fr (grown_fr g1)
  have e1 := (Array.getElem?_eq_some_iff.1 hb1).1
  have e2 := (Array.getElem?_eq_some_iff.1 hb2).1
  rcases h1 with ⟨b, s1, hres, hsz, rfl, hr⟩ | ⟨hres, rfl, s1, hsz, hr⟩
  · obtain ⟨rfl, hl⟩ := oct_inv hres
    have hb256 := UInt8.toNat_lt b
    have hrl := hr.lt
    obtain ⟨x1, x2⟩ := box_cells hb1
    obtain ⟨y1, y2⟩ := box_cells hb2
    obtain ⟨z1, z2⟩ := box_cells hr
    have n1 : w.heap.size ≠ W1.heap.size := by omega
    have n2 : W1.heap.size ≠ w.heap.size := by omega
    have n3 : w.heap.size + 1 ≠ W1.heap.size := by omega
    have n4 : W1.heap.size ≠ w.heap.size + 1 := by omega
    have n5 : rb ≠ W1.heap.size := by omega
    have n6 : W1.heap.size ≠ rb := by omega
    have n7 : rb ≠ w.heap.size + 1 := by omega
    have n8 : w.heap.size + 1 ≠ rb := by omega
    have H1 := (show Hid _ from And.intro hl (And.intro hr (And.intro g0 (And.intro hb1 hb2))))
    clear hl hr g0 hb1 hb2 hres g1
    by_cases hk1 : b.toNat = 1
    · have hk1i : ((b.toNat : Int) == 1) = true := by rw [beq_iff_eq]; omega
      have hnum := pnumber_any rb s1 false (W1.alloc (.cells #[.int .i64 (b.toNat : Int), .int .i64 0, .int .i64 0, .bool false, .int .i64 0, .int .i64 0] 62)) (H1.out.2.1.alloc _) (by omega)
      have HN := (show Hid _ from hnum)
      have HK := (show Hid _ from hk1)
      clear hnum hk1
      go_wp2_with fail
      refine Calls.mono HN.out ?_
      rintro e W2 ⟨h2, g2⟩
      have hv2 := box_kept (heap_alloc_new W1 (.cells #[.int .i64 (b.toNat : Int), .int .i64 0, .int .i64 0, .bool false, .int .i64 0, .int .i64 0] 62)) g2 (by omega)
      have hr2 := box_kept ((Below.heap_alloc W1 (.cells #[.int .i64 (b.toNat : Int), .int .i64 0, .int .i64 0, .bool false, .int .i64 0, .int .i64 0] 62) _ e2).trans H1.out.2.2.2.2) g2 (by omega)
      obtain ⟨u1, u2⟩ := box_cells hv2
      obtain ⟨y3, y4⟩ := box_cells hr2
      have gg := H1.out.2.2.1.trans (grown_fr g2)
      clear x1 x2 y1 y2 z1 z2 hv2 hr2 g2
      rcases h2 with ⟨x, s2, hres2, hsz2, rfl, hrd⟩ | ⟨hres2, rfl, s2, hsz2, hrd⟩
      · have H2 := (show Hid _ from And.intro hres2 (And.intro hrd gg))
        clear hres2 hrd gg
        go_wp2_with fail
        have hst := store6 (b := w.heap.size + 1) (grown_far (b := W1.heap.size) (o := 1) H2.out.2.2 (by omega) (.int .i64 x)) (H2.out.2.1.far (b := W1.heap.size) (o := 1) (by omega) (.int .i64 x)) (by omega) (by omega) (.int .i64 (b.toNat : Int)) (.int .i64 x) (.int .i64 0) (.bool false) (.int .i64 0) (.int .i64 0)
        refine bodyPost_ret (v := vlV ⟨(b.toNat : Int), x, 0, false, 0, 0⟩) (by simp [results, Try.results85, go_sem, y3, vlV]) rfl ?_
        refine ⟨Or.inl ⟨⟨(b.toNat : Int), x, 0, false, 0, 0⟩, s2, ?_, by omega, rfl, hst.1⟩, hst.2⟩
        have h3 := H2.out.1
        unfold ifG at h3 ⊢
        simp only [Bool.false_eq_true, if_false] at h3 ⊢
        unfold rval
        rw [H1.out.1]
        simp only [HK.out, if_true]
        rw [h3]
        rfl
      · have H2 := (show Hid _ from And.intro hres2 (And.intro hrd gg))
        clear hres2 hrd gg
        go_wp2_with fail
        have hst := store6 (b := w.heap.size + 1) (grown_far (b := W1.heap.size) (o := 1) H2.out.2.2 (by omega) (.int .i64 0)) (H2.out.2.1.far (b := W1.heap.size) (o := 1) (by omega) (.int .i64 0)) (by omega) (by omega) (.int .i64 (b.toNat : Int)) (.int .i64 0) (.int .i64 0) (.bool false) (.int .i64 0) (.int .i64 0)
        refine bodyPost_ret (v := vlV ⟨(b.toNat : Int), 0, 0, false, 0, 0⟩) (by simp [results, Try.results85, go_sem, y3, vlV]) rfl ?_
        refine ⟨Or.inr ⟨?_, _, s2, ⟨_, rfl⟩, rfl, by omega, hst.1⟩, hst.2⟩
        have h3 := H2.out.1
        unfold ifG at h3 ⊢
        simp only [Bool.false_eq_true, if_false] at h3 ⊢
        unfold rval
        rw [H1.out.1]
        simp only [HK.out, if_true]
        rw [h3]
    · have hk1i : ((b.toNat : Int) == 1) = false := by rw [beq_eq_false_iff_ne]; omega
      by_cases hk2 : b.toNat = 2
      · have hk2i : ((b.toNat : Int) == 2) = true := by rw [beq_iff_eq]; omega
        have HK := (show Hid _ from And.intro hk1 hk2)
        clear hk1 hk2
        cases hL : decide (g = 1) with
        | false =>
          have HGN : Hid (¬ g = 1) := by show ¬ g = 1; simpa using hL
          go_wp2_with (go_at_call 67; refine (isLeast_any _ _ _).mono ?_; rw [hL]; rintro e w9 ⟨rfl, rfl⟩)
          have hst := store6 (b := w.heap.size + 1) H1.out.2.2.1 H1.out.2.1 (by omega) (by omega) (.int .i64 (b.toNat : Int)) (.int .i64 0) (.int .i64 0) (.bool false) (.int .i64 0) (.int .i64 0)
          refine bodyPost_ret (v := vlV ⟨(b.toNat : Int), 0, 0, false, 0, 0⟩) (by simp [results, Try.results85, go_sem, y1, vlV, e2, (show w.heap.size + 1 < W1.heap.size + 1 by omega), (show w.heap.size < W1.heap.size by omega)]) rfl ?_
          refine ⟨Or.inl ⟨⟨(b.toNat : Int), 0, 0, false, 0, 0⟩, s1, ?_, by omega, rfl, (hst.1.alloc _).alloc _⟩, grown_al (grown_al hst.2 _) _⟩
          unfold ifG rval
          rw [H1.out.1]
          simp [HK.out.1, HK.out.2, HGN.out]
        | true =>
          have HG1 : Hid (g = 1) := by show g = 1; simpa using hL
          have hflag := pflag_any rb s1 false ((W1.alloc (.cells #[.int .i64 (b.toNat : Int), .int .i64 0, .int .i64 0, .bool false, .int .i64 0, .int .i64 0] 62)).alloc (.cells #[.int .i64 p, .int .i64 g] 80)) ((H1.out.2.1.alloc _).alloc _) (by omega)
          have HN := (show Hid _ from hflag)
          clear hflag
          go_wp2_with (go_at_call 67; refine (isLeast_any _ _ _).mono ?_; rw [hL]; rintro e w9 ⟨rfl, rfl⟩)
          refine Calls.mono HN.out ?_
          rintro e W2 ⟨h2, g2⟩
          have hv2 := box_kept ((Below.heap_alloc _ (.cells #[.int .i64 p, .int .i64 g] 80) _ (by simp)).trans (heap_alloc_new W1 (.cells #[.int .i64 (b.toNat : Int), .int .i64 0, .int .i64 0, .bool false, .int .i64 0, .int .i64 0] 62))) g2 (by omega)
          have hr2 := box_kept ((Below.heap_alloc _ (.cells #[.int .i64 p, .int .i64 g] 80) _ (by simp; omega)).trans ((Below.heap_alloc W1 (.cells #[.int .i64 (b.toNat : Int), .int .i64 0, .int .i64 0, .bool false, .int .i64 0, .int .i64 0] 62) _ e2).trans H1.out.2.2.2.2)) g2 (by omega)
          obtain ⟨u1, u2⟩ := box_cells hv2
          obtain ⟨y3, y4⟩ := box_cells hr2
          have gg := H1.out.2.2.1.trans (grown_fr (grown_fr g2))
          have HB2 := (show Hid _ from And.intro hv2 hr2)
          clear x1 x2 y1 y2 z1 z2 hv2 hr2 g2
          rcases h2 with ⟨f, s2, hres2, hsz2, rfl, hrd⟩ | ⟨hres2, rfl, s2, hsz2, hrd⟩
          · cases f with
            | false =>
              have H2 := (show Hid _ from And.intro hres2 (And.intro hrd gg))
              clear hres2 hrd gg
              go_wp2_with fail
              have hst := store6 (b := w.heap.size + 1) H2.out.2.2 H2.out.2.1 (by omega) (by omega) (.int .i64 (b.toNat : Int)) (.int .i64 0) (.int .i64 0) (.bool false) (.int .i64 0) (.int .i64 0)
              refine bodyPost_ret (v := vlV ⟨(b.toNat : Int), 0, 0, false, 0, 0⟩) (by simp [results, Try.results85, go_sem, y3, vlV]) rfl ?_
              refine ⟨Or.inl ⟨⟨(b.toNat : Int), 0, 0, false, 0, 0⟩, s2, ?_, by omega, rfl, hst.1⟩, hst.2⟩
              have h3 := H2.out.1
              unfold ifG at h3 ⊢
              simp only [Bool.false_eq_true, if_false] at h3 ⊢
              unfold rval
              rw [H1.out.1]
              simp only [HK.out.1, HK.out.2, HG1.out, if_true, if_false, h3]
              rfl
            | true =>
              have hnum := pnumber_any rb s2 false (W2.setCell ⟨W1.heap.size, 3, none⟩ (.bool true)) (hrd.far (by omega) _) (by omega)
              have H2 := (show Hid _ from And.intro hres2 (And.intro hnum gg))
              clear hres2 hrd gg hnum
              go_wp2_with fail
              refine Calls.mono H2.out.2.1 ?_
              rintro e W3 ⟨h4, g4⟩
              have hv3 := box_kept (rd_set (o := 3) HB2.out.1 (.bool true)) g4 (by omega)
              have hr3 := box_kept ((Below.heap_setCell W2 ⟨W1.heap.size, 3, none⟩ _ _ (show w.heap.size + 1 ≠ W1.heap.size by omega)).trans HB2.out.2) g4 (by omega)
              have gg := (grown_far (b := W1.heap.size) (o := 3) H2.out.2.2 (by omega) (.bool true)).trans g4
              have HB3 := (show Hid _ from And.intro hv3 hr3)
              obtain ⟨t1, t2⟩ := box_cells hv3
              obtain ⟨v1, v2⟩ := box_cells hr3
              clear u1 u2 y3 y4 hv3 hr3 g4
              rcases h4 with ⟨x, s3, hres3, hsz3, rfl, hrd⟩ | ⟨hres3, rfl, s3, hsz3, hrd⟩
              · have hrk := prank_any rb s3 false (W3.setCell ⟨W1.heap.size, 4, none⟩ (.int .i64 x)) (hrd.far (by omega) _) (by omega)
                have H3 := (show Hid _ from And.intro hres3 (And.intro hrk gg))
                clear hres3 hrd gg hrk
                go_wp2_with fail
                refine Calls.mono H3.out.2.1 ?_
                rintro e W4 ⟨h5, g5⟩
                have hv4 := box_kept (rd_set (o := 4) HB3.out.1 (.int .i64 x)) g5 (by omega)
                have hr4 := box_kept ((Below.heap_setCell W3 ⟨W1.heap.size, 4, none⟩ _ _ (show w.heap.size + 1 ≠ W1.heap.size by omega)).trans HB3.out.2) g5 (by omega)
                have gg := (grown_far (b := W1.heap.size) (o := 4) H3.out.2.2 (by omega) (.int .i64 x)).trans g5
                obtain ⟨p1, p2⟩ := box_cells hv4
                obtain ⟨q1, q2⟩ := box_cells hr4
                clear t1 t2 v1 v2 hv4 hr4 g5
                rcases h5 with ⟨k, s4, hres4, hsz4, rfl, hrd⟩ | ⟨hres4, rfl, s4, hsz4, hrd⟩
                · have H4 := (show Hid _ from And.intro hres4 (And.intro hrd gg))
                  clear hres4 hrd gg
                  go_wp2_with fail
                  have hst := store6 (b := w.heap.size + 1) (grown_far (b := W1.heap.size) (o := 5) H4.out.2.2 (by omega) (.int .i64 (k : Int))) (H4.out.2.1.far (b := W1.heap.size) (o := 5) (by omega) (.int .i64 (k : Int))) (by omega) (by omega) (.int .i64 (b.toNat : Int)) (.int .i64 0) (.int .i64 0) (.bool true) (.int .i64 x) (.int .i64 (k : Int))
                  refine bodyPost_ret (v := vlV ⟨(b.toNat : Int), 0, 0, true, x, (k : Int)⟩) (by simp [results, Try.results85, go_sem, q1, vlV]) rfl ?_
                  refine ⟨Or.inl ⟨⟨(b.toNat : Int), 0, 0, true, x, (k : Int)⟩, s4, ?_, by omega, rfl, hst.1⟩, hst.2⟩
                  have h3 := H2.out.1
                  have h4 := H3.out.1
                  have h5 := H4.out.1
                  unfold ifG at h3 h4 h5 ⊢
                  simp only [Bool.false_eq_true, if_false] at h3 h4 h5 ⊢
                  unfold rval
                  rw [H1.out.1]
                  simp only [HK.out.1, HK.out.2, HG1.out, if_true, if_false, h3]
                  unfold rearly
                  rw [h4]
                  simp only
                  rw [h5]
                  rfl
                · have H4 := (show Hid _ from And.intro hres4 (And.intro hrd gg))
                  clear hres4 hrd gg
                  go_wp2_with fail
                  have hst := store6 (b := w.heap.size + 1) (grown_far (b := W1.heap.size) (o := 5) H4.out.2.2 (by omega) (.int .i64 0)) (H4.out.2.1.far (b := W1.heap.size) (o := 5) (by omega) (.int .i64 0)) (by omega) (by omega) (.int .i64 (b.toNat : Int)) (.int .i64 0) (.int .i64 0) (.bool true) (.int .i64 x) (.int .i64 0)
                  refine bodyPost_ret (v := vlV ⟨(b.toNat : Int), 0, 0, true, x, 0⟩) (by simp [results, Try.results85, go_sem, q1, vlV]) rfl ?_
                  refine ⟨Or.inr ⟨?_, _, s4, ⟨_, rfl⟩, rfl, by omega, hst.1⟩, hst.2⟩
                  have h3 := H2.out.1
                  have h4 := H3.out.1
                  have h5 := H4.out.1
                  unfold ifG at h3 h4 h5 ⊢
                  simp only [Bool.false_eq_true, if_false] at h3 h4 h5 ⊢
                  unfold rval
                  rw [H1.out.1]
                  simp only [HK.out.1, HK.out.2, HG1.out, if_true, if_false, h3]
                  unfold rearly
                  rw [h4]
                  simp only
                  rw [h5]
                  rfl
              · have hrk := prank_any rb s3 true (W3.setCell ⟨W1.heap.size, 4, none⟩ (.int .i64 0)) (hrd.far (by omega) _) (by omega)
                have H3 := (show Hid _ from And.intro hres3 (And.intro hrk gg))
                clear hres3 hrd gg hrk
                go_wp2_with fail
                refine Calls.mono H3.out.2.1 ?_
                rintro e W4 ⟨h5, g5⟩
                have hv4 := box_kept (rd_set (o := 4) HB3.out.1 (.int .i64 0)) g5 (by omega)
                have hr4 := box_kept ((Below.heap_setCell W3 ⟨W1.heap.size, 4, none⟩ _ _ (show w.heap.size + 1 ≠ W1.heap.size by omega)).trans HB3.out.2) g5 (by omega)
                have gg := (grown_far (b := W1.heap.size) (o := 4) H3.out.2.2 (by omega) (.int .i64 0)).trans g5
                obtain ⟨p1, p2⟩ := box_cells hv4
                obtain ⟨q1, q2⟩ := box_cells hr4
                clear t1 t2 v1 v2 hv4 hr4 g5
                rcases h5 with ⟨k, s4, hres4, hsz4, rfl, hrd⟩ | ⟨hres4, rfl, s4, hsz4, hrd⟩
                · cases hres4
                · have H4 := (show Hid _ from And.intro hres4 (And.intro hrd gg))
                  clear hres4 hrd gg
                  go_wp2_with fail
                  have hst := store6 (b := w.heap.size + 1) (grown_far (b := W1.heap.size) (o := 5) H4.out.2.2 (by omega) (.int .i64 0)) (H4.out.2.1.far (b := W1.heap.size) (o := 5) (by omega) (.int .i64 0)) (by omega) (by omega) (.int .i64 (b.toNat : Int)) (.int .i64 0) (.int .i64 0) (.bool true) (.int .i64 0) (.int .i64 0)
                  refine bodyPost_ret (v := vlV ⟨(b.toNat : Int), 0, 0, true, 0, 0⟩) (by simp [results, Try.results85, go_sem, q1, vlV]) rfl ?_
                  refine ⟨Or.inr ⟨?_, _, s4, ⟨_, rfl⟩, rfl, by omega, hst.1⟩, hst.2⟩
                  have h3 := H2.out.1
                  have h4 := H3.out.1
                  unfold ifG at h3 h4 ⊢
                  simp only [Bool.false_eq_true, if_false] at h3 h4 ⊢
                  unfold rval
                  rw [H1.out.1]
                  simp only [HK.out.1, HK.out.2, HG1.out, if_true, if_false, h3]
                  unfold rearly
                  rw [h4]
                  rfl
          · have H2 := (show Hid _ from And.intro hres2 (And.intro hrd gg))
            clear hres2 hrd gg
            go_wp2_with fail
            have hst := store6 (b := w.heap.size + 1) H2.out.2.2 H2.out.2.1 (by omega) (by omega) (.int .i64 (b.toNat : Int)) (.int .i64 0) (.int .i64 0) (.bool false) (.int .i64 0) (.int .i64 0)
            refine bodyPost_ret (v := vlV ⟨(b.toNat : Int), 0, 0, false, 0, 0⟩) (by simp [results, Try.results85, go_sem, y3, vlV]) rfl ?_
            refine ⟨Or.inr ⟨?_, _, s2, ⟨_, rfl⟩, rfl, by omega, hst.1⟩, hst.2⟩
            have h3 := H2.out.1
            unfold ifG at h3 ⊢
            simp only [Bool.false_eq_true, if_false] at h3 ⊢
            unfold rval
            rw [H1.out.1]
            simp only [HK.out.1, HK.out.2, HG1.out, if_true, if_false, h3]
            rfl
      · have hk2i : ((b.toNat : Int) == 2) = false := by rw [beq_eq_false_iff_ne]; omega
        go_wp2_with fail
        have hst := store6 (b := w.heap.size + 1) (H1.out.2.2.1.trans (grown_self _ rb 1 (.bool true))) (rd_set (o := 1) H1.out.2.1 (.bool true)) (by omega) (by omega) (.int .i64 (b.toNat : Int)) (.int .i64 0) (.int .i64 0) (.bool false) (.int .i64 0) (.int .i64 0)
        refine bodyPost_ret (v := vlV ⟨(b.toNat : Int), 0, 0, false, 0, 0⟩) (by simp [results, Try.results85, go_sem, y1, vlV, e2]) rfl ?_
        refine ⟨Or.inr ⟨?_, _, s1, ⟨_, rfl⟩, rfl, by omega, hst.1.alloc _⟩, grown_al hst.2 _⟩
        unfold ifG rval
        rw [H1.out.1]
        simp [hk1, hk2]
  · have hrl := hr.lt
    obtain ⟨x1, x2⟩ := box_cells hb1
    obtain ⟨y1, y2⟩ := box_cells hb2
    obtain ⟨z1, z2⟩ := box_cells hr
    have n1 : w.heap.size ≠ W1.heap.size := by omega
    have n2 : W1.heap.size ≠ w.heap.size := by omega
    have n3 : w.heap.size + 1 ≠ W1.heap.size := by omega
    have n4 : W1.heap.size ≠ w.heap.size + 1 := by omega
    have n5 : rb ≠ W1.heap.size := by omega
    have n6 : W1.heap.size ≠ rb := by omega
    have n7 : rb ≠ w.heap.size + 1 := by omega
    have n8 : w.heap.size + 1 ≠ rb := by omega
    have H1 := (show Hid _ from And.intro (oct_none g hres) (And.intro hr (And.intro g0 (And.intro hb1 hb2))))
    clear hr g0 hb1 hb2 hres g1
    go_wp2_with fail
    have hst := store6 (b := w.heap.size + 1) (H1.out.2.2.1.trans (grown_self _ rb 1 (.bool true))) (rd_set (o := 1) H1.out.2.1 (.bool true)) (by omega) (by omega) (.int .i64 0) (.int .i64 0) (.int .i64 0) (.bool false) (.int .i64 0) (.int .i64 0)
    refine bodyPost_ret (v := vlV ⟨0, 0, 0, false, 0, 0⟩) (by simp [results, Try.results85, go_sem, y1, vlV, e2]) rfl ?_
    exact ⟨Or.inr ⟨H1.out.1, _, s1, ⟨_, rfl⟩, rfl, by omega, hst.1.alloc _⟩, grown_al hst.2 _⟩
end Go.Proofs.Ytmipbiligijcpaa
