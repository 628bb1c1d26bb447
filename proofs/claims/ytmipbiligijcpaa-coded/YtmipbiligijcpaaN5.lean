/- The program's reader: values. -/
import Derived.Test.YtmipbiligijcpaaN4
import Derived.Test.YtmipbiligijcpaaH1
namespace Go.Proofs.Ytmipbiligijcpaa
set_option linter.unusedVariables false
set_option linter.unusedSimpArgs false
open Go.RowKit Go.Proofs Go.Maps

/-- what reading something answers; where it is bad, something of that form -/
def RdP {α : Type} (w' : World) (rb : Nat) (s : ByteArray) (res : Option (α × List UInt8)) (val : α → Value) (z : Value → Prop) (e : Ending) : Prop :=
  (∃ a s', res = some (a, s'.data.toList) ∧ s'.size ≤ s.size ∧ e = .returned (val a) ∧ Rdr w' rb s' false) ∨ (res = none ∧ ∃ v s', z v ∧ e = .returned v ∧ s'.size ≤ s.size ∧ Rdr w' rb s' true)
theorem grown_al {w W : World} {row : Option Nat} (h : w.grownBy W row) (o : Obj) : w.grownBy (W.alloc o) row := h.trans (World.grownBy_alloc W o row)
theorem grown_fr {w W : World} {o : Obj} {row : Option Nat} (h : (w.alloc o).grownBy W row) : w.grownBy W row := (World.grownBy_alloc w o row).trans h
theorem Rdr.alloc {w : World} {rb : Nat} {s : ByteArray} {bad : Bool} (h : Rdr w rb s bad) (o : Obj) : Rdr (w.alloc o) rb s bad := (Below.heap_alloc _ _ _ (Array.getElem?_eq_some_iff.1 h).1).trans h
theorem Rdr.lt {w : World} {rb : Nat} {s : ByteArray} {bad : Bool} (h : Rdr w rb s bad) : rb < w.heap.size := (Array.getElem?_eq_some_iff.1 h).1
def hiOf (lo : Int) (n : Nat) : Int := wrap64 (IntKind.u64.wrap (IntKind.u64.wrap lo + (n : Int)))
theorem grown_far {w w' : World} {row : Option Nat} (h : w.grownBy w' row) {b o : Nat} (hb : w.heap.size ≤ b) (v : Value) : w.grownBy (w'.setCell ⟨b, o, none⟩ v) row :=
  ⟨h.os, h.tape, h.output, by simpa [World.setCell] using h.size, fun k hk hr => (Below.heap_setCell _ _ _ _ (by show k ≠ b; omega)).trans (h.block k hk hr)⟩
theorem Rdr.far {w : World} {rb : Nat} {s : ByteArray} {bad : Bool} (h : Rdr w rb s bad) {b o : Nat} (hb : rb ≠ b) (v : Value) : Rdr (w.setCell ⟨b, o, none⟩ v) rb s bad := (Below.heap_setCell _ _ _ _ hb).trans h
theorem store6 {w W : World} {rb b : Nat} {s : ByteArray} {bad : Bool} (g : w.grownBy W (some rb)) (h : Rdr W rb s bad) (hb : w.heap.size ≤ b) (hne : rb ≠ b) (a0 a1 a2 a3 a4 a5 : Value) : Rdr ((((((W.setCell ⟨b, 0, none⟩ a0).setCell ⟨b, 1, none⟩ a1).setCell ⟨b, 2, none⟩ a2).setCell ⟨b, 3, none⟩ a3).setCell ⟨b, 4, none⟩ a4).setCell ⟨b, 5, none⟩ a5) rb s bad ∧ w.grownBy ((((((W.setCell ⟨b, 0, none⟩ a0).setCell ⟨b, 1, none⟩ a1).setCell ⟨b, 2, none⟩ a2).setCell ⟨b, 3, none⟩ a3).setCell ⟨b, 4, none⟩ a4).setCell ⟨b, 5, none⟩ a5) (some rb) :=
  ⟨(((((h.far hne _).far hne _).far hne _).far hne _).far hne _).far hne _, grown_far (grown_far (grown_far (grown_far (grown_far (grown_far g hb _) hb _) hb _) hb _) hb _) hb _⟩
def rbnd (l : List UInt8) : Option (Vl × List UInt8) := match rnum l with
  | some (lo, r) => match rc r with
    | some (n, q) => some (⟨3, lo, hiOf lo n, false, 0, 0⟩, q)
    | none => none
  | none => none
theorem box_kept {w W : World} {k rb : Nat} {cs : Array Value} {t : TypeId} (h : w.heap[k]? = some (.cells cs t (0, 0))) (g : w.grownBy W (some rb)) (hne : k ≠ rb) : W.heap[k]? = some (.cells cs t (0, 0)) := (g.block k (Array.getElem?_eq_some_iff.1 h).1 (by simpa using hne)).trans h
set_option maxHeartbeats 1000000 in
set_option maxRecDepth 100000 in
theorem pbounds_any (rb : Nat) (s : ByteArray) (bad : Bool) (w : World) (h : Rdr w rb s bad) (hs : s.size ≤ 60000) :
    Calls Try.prog 84 #[.pointer (some ⟨rb, 0, none⟩)] w fun e w' => RdP w' rb s (ifG bad rbnd s) vlV (fun z => ∃ v, z = vlV v) e ∧ w.grownBy w' (some rb) := by
  have hlt := h.lt
  have hc := fun (h2 : Rdr (w.alloc (.cells #[.int .i64 0, .int .i64 0, .int .i64 0, .bool false, .int .i64 0, .int .i64 0] 62)) rb s bad) => pnumber_any rb s bad _ h2 hs
  have HR := (show Hid _ from And.intro hc h)
  clear h hc
  go_enter Try.func84, Try.ntmps84
  go_wp2_with fail
  refine Calls.mono (HR.out.1 (HR.out.2.alloc _)) ?_
  rintro e W1 ⟨h1, g1⟩
  have hbx := box_kept (heap_alloc_new w (.cells #[.int .i64 0, .int .i64 0, .int .i64 0, .bool false, .int .i64 0, .int .i64 0] 62)) g1 (by omega)
  rcases h1 with ⟨lo, s1, hres, hsz, rfl, hr⟩ | ⟨hres, rfl, s1, hsz, hr⟩
  · have hc2 := pcount_any rb s1 false W1 hr (by omega)
    have H1 := (show Hid _ from And.intro hc2 (And.intro hres (And.intro (grown_fr g1) hbx)))
    clear hc2 hres g1 hbx hr
    go_wp2_with fail
    refine Calls.mono H1.out.1 ?_
    rintro e W2 ⟨h2, g2⟩
    have hbx2 := box_kept H1.out.2.2.2 g2 (by omega)
    rcases h2 with ⟨n, s2, hres2, hsz2, rfl, hr2⟩ | ⟨hres2, rfl, s2, hsz2, hr2⟩
    · obtain ⟨x1, x2⟩ := box_cells hbx2
      have H2 := (show Hid _ from And.intro hres2 (And.intro hr2 (And.intro g2 hbx2)))
      clear hres2 hr2 g2 hbx2
      go_wp2_with fail
      refine bodyPost_ret (v := vlV ⟨3, lo, hiOf lo n, false, 0, 0⟩) (by simp [results, Try.results84, go_sem, x1, vlV, hiOf]) rfl ?_
      have hst := store6 (H1.out.2.2.1.trans H2.out.2.2.1) H2.out.2.1 (Nat.le_refl w.heap.size) (by omega) (.int .i64 3) (.int .i64 lo) (.int .i64 (hiOf lo n)) (.bool false) (.int .i64 0) (.int .i64 0)
      refine ⟨Or.inl ⟨⟨3, lo, hiOf lo n, false, 0, 0⟩, s2, ?_, by omega, rfl, hst.1⟩, hst.2⟩
      have h1 := H1.out.2.1
      have h2 := H2.out.1
      unfold ifG at h1 h2 ⊢
      cases bad with
      | true => cases h1
      | false =>
        simp only [Bool.false_eq_true, if_false] at h1 h2 ⊢
        unfold rbnd
        rw [h1]
        simp only
        rw [h2]
    · obtain ⟨x1, x2⟩ := box_cells hbx2
      have H2 := (show Hid _ from And.intro hres2 (And.intro hr2 (And.intro g2 hbx2)))
      clear hres2 hr2 g2 hbx2
      go_wp2_with fail
      have hst := store6 (H1.out.2.2.1.trans H2.out.2.2.1) H2.out.2.1 (Nat.le_refl w.heap.size) (by omega) (.int .i64 3) (.int .i64 lo) (.int .i64 (wrap64 (IntKind.u64.wrap (IntKind.u64.wrap lo)))) (.bool false) (.int .i64 0) (.int .i64 0)
      refine bodyPost_ret (v := vlV ⟨3, lo, wrap64 (IntKind.u64.wrap (IntKind.u64.wrap lo)), false, 0, 0⟩) (by simp [results, Try.results84, go_sem, x1, vlV]) rfl ?_
      refine ⟨Or.inr ⟨?_, _, s2, ⟨_, rfl⟩, rfl, by omega, hst.1⟩, hst.2⟩
      have h1 := H1.out.2.1
      have h2 := H2.out.1
      unfold ifG at h1 h2 ⊢
      cases bad with
      | true => cases h1
      | false =>
        simp only [Bool.false_eq_true, if_false] at h1 h2 ⊢
        unfold rbnd
        rw [h1]
        simp only
        rw [h2]
  · have hc2 := pcount_any rb s1 true W1 hr (by omega)
    have HN : Hid (ifG bad rbnd s = none) := by
      show _ = _
      unfold ifG at hres ⊢
      cases bad with
      | true => rfl
      | false =>
        simp only [Bool.false_eq_true, if_false] at hres ⊢
        unfold rbnd
        rw [hres]
    have H1 := (show Hid _ from And.intro hc2 (And.intro HN.out (And.intro (grown_fr g1) hbx)))
    clear hc2 hres g1 hbx hr HN
    go_wp2_with fail
    refine Calls.mono H1.out.1 ?_
    rintro e W2 ⟨h2, g2⟩
    have hbx2 := box_kept H1.out.2.2.2 g2 (by omega)
    rcases h2 with ⟨n, s2, hres2, hsz2, rfl, hr2⟩ | ⟨hres2, rfl, s2, hsz2, hr2⟩
    · cases hres2
    · obtain ⟨x1, x2⟩ := box_cells hbx2
      have H2 := (show Hid _ from And.intro hres2 (And.intro hr2 (And.intro g2 hbx2)))
      clear hres2 hr2 g2 hbx2
      go_wp2_with fail
      have hst := store6 (H1.out.2.2.1.trans H2.out.2.2.1) H2.out.2.1 (Nat.le_refl w.heap.size) (by omega) (.int .i64 3) (.int .i64 0) (.int .i64 0) (.bool false) (.int .i64 0) (.int .i64 0)
      refine bodyPost_ret (v := vlV ⟨3, 0, 0, false, 0, 0⟩) (by simp [results, Try.results84, go_sem, x1, vlV]) rfl ?_
      exact ⟨Or.inr ⟨H1.out.2.1, _, s2, ⟨_, rfl⟩, rfl, by omega, hst.1⟩, hst.2⟩
end Go.Proofs.Ytmipbiligijcpaa
