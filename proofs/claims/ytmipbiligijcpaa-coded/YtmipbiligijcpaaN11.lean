/- The program's reader: environments. -/
import Derived.Test.YtmipbiligijcpaaN10
namespace Go.Proofs.Ytmipbiligijcpaa
set_option linter.unusedVariables false
set_option linter.unusedSimpArgs false
open Go.RowKit Go.Proofs Go.Maps

def stepV (p g : Int) (_ : Unit) (l : List UInt8) : Option ((Vl × Unit) × List UInt8) := match (if p = 6 then rbnd l else rval g l) with
  | some (v, r) => some ((v, ()), r)
  | none => none
def InvE (sb xb rb : Nat) (p g : Int) (W : World) : Prop := W.heap[sb]? = some (.cells #[.int .i64 p, .int .i64 g] 80 (0, 0)) ∧ InvX xb rb W
theorem rdp_one {W W' : World} {rb sb xb : Nat} {s : ByteArray} {bad : Bool} {p g : Int} {q : List UInt8 → Option (Vl × List UInt8)} {e : Ending} (hq : ∀ l, (if p = 6 then rbnd l else rval g l) = q l) (hs : sb ≠ rb) (hx : xb ≠ rb) (hI : InvE sb xb rb p g W) (h : RdP W' rb s (ifG bad q s) vlV (fun z => ∃ v, z = vlV v) e) (hg : W.grownBy W' (some rb)) :
    OneA W' rb s (ifG bad (stepV p g ()) s) vlV (fun z => ∃ x, z = vlV x) (fun W (_ : Unit) => InvE sb xb rb p g W) (InvE sb xb rb p g) e ∧ Fr (fun j => j ≠ rb ∧ ¬ (j = sb ∨ j = xb)) W W' := by
  have hI' : InvE sb xb rb p g W' := ⟨(hg.block sb (Array.getElem?_eq_some_iff.1 hI.1).1 (by simpa using hs)).trans hI.1, (hg.block xb (Array.getElem?_eq_some_iff.1 hI.2).1 (by simpa using hx)).trans hI.2⟩
  refine ⟨?_, Fr.of_grown hg (fun j _ hj => by simpa using hj.1)⟩
  rcases h with ⟨v, s', h1, h2, h3, h4⟩ | ⟨h1, z, s', h2, h3, h4, h5⟩
  · obtain ⟨hb, h1'⟩ := ifG_some h1
    subst hb
    refine Or.inl ⟨v, (), s', ?_, h2, h3, h4, hI'⟩
    unfold ifG stepV
    simp only [Bool.false_eq_true, if_false]
    rw [hq, h1']
  · refine Or.inr ⟨?_, z, s', h2, h3, h4, h5, hI'⟩
    apply ifG_of
    rcases ifG_none h1 with r | ⟨_, r⟩
    · exact Or.inl r
    · right
      unfold stepV
      rw [hq, r]
theorem rdp_val {W' : World} {rb : Nat} {s : ByteArray} {res : Option (Vl × List UInt8)} {e : Ending} (h : RdP W' rb s res vlV (fun z => ∃ v, z = vlV v) e) : ∃ v, e = .returned (vlV v) := by
  rcases h with ⟨v, s', h1, h2, h3, h4⟩ | ⟨h1, z, s', ⟨v, hv⟩, h3, h4, h5⟩
  · exact ⟨v, h3⟩
  · exact ⟨v, by rw [h3, hv]⟩
theorem rdp_world {W' U : World} {rb : Nat} {s : ByteArray} {res : Option (Vl × List UInt8)} {e : Ending} (h : RdP W' rb s res vlV (fun z => ∃ v, z = vlV v) e) (hU : ∀ s' b, Rdr W' rb s' b → Rdr U rb s' b) : RdP U rb s res vlV (fun z => ∃ v, z = vlV v) e := by
  rcases h with ⟨v, s', h1, h2, h3, h4⟩ | ⟨h1, z, s', h2, h3, h4, h5⟩
  · exact Or.inl ⟨v, s', h1, h2, h3, hU _ _ h4⟩
  · exact Or.inr ⟨h1, z, s', h2, h3, h4, hU _ _ h5⟩
theorem rdp_rdr {W' : World} {rb : Nat} {s : ByteArray} {res : Option (Vl × List UInt8)} {e : Ending} (h : RdP W' rb s res vlV (fun z => ∃ v, z = vlV v) e) : ∃ s' b, Rdr W' rb s' b := by
  rcases h with ⟨v, s', h1, h2, h3, h4⟩ | ⟨h1, z, s', h2, h3, h4, h5⟩
  · exact ⟨_, _, h4⟩
  · exact ⟨_, _, h5⟩
set_option maxHeartbeats 1000000 in
theorem penv1_any (sb xb rb : Nat) (p g : Int) (hs : sb ≠ rb) (hx : xb ≠ rb) (W : World) (s : ByteArray) (bad : Bool) (hI : InvE sb xb rb p g W) (h : Rdr W rb s bad) (hsz : s.size ≤ 60000) :
    Calls Try.prog 83 #[.pointer (some ⟨sb, 0, none⟩), .pointer (some ⟨xb, 0, none⟩)] W fun e W' => OneA W' rb s (ifG bad (stepV p g ()) s) vlV (fun z => ∃ x, z = vlV x) (fun W (_ : Unit) => InvE sb xb rb p g W) (InvE sb xb rb p g) e ∧ Fr (fun j => j ≠ rb ∧ ¬ (j = sb ∨ j = xb)) W W' := by
  have hsl := (Array.getElem?_eq_some_iff.1 hI.1).1
  have hxl := (Array.getElem?_eq_some_iff.1 hI.2).1
  have hrl := h.lt
  have HI := (show Hid _ from And.intro hI h)
  clear hI h
  by_cases hp : p = 6
  · have fp : (p == 6) = true := by rw [beq_iff_eq]; exact hp
    have HP := (show Hid _ from hp)
    clear hp
    go_enter Try.func83, Try.ntmps83
    go_upto_region 1 with (fail)
    obtain ⟨V0, hV0⟩ : ∃ V, V = (W.alloc (.cells #[.int .i64 0, .int .i64 0, .int .i64 0, .bool false, .int .i64 0, .int .i64 0] 62)) := ⟨_, rfl⟩
    rw [← hV0]
    have hb0 : Below W.heap.size W V0 := by rw [hV0]; exact below1 _ _
    have q0 := (hb0.block sb hsl).trans HI.out.1.1
    have q1 := (hb0.block xb hxl).trans HI.out.1.2
    have q2 : V0.heap[W.heap.size]? = some (.cells #[.int .i64 0, .int .i64 0, .int .i64 0, .bool false, .int .i64 0, .int .i64 0] 62 (0, 0)) := by rw [hV0]; exact heap_alloc_new _ _
    have hr0 : Rdr V0 rb s bad := by rw [hV0]; exact HI.out.2.alloc _
    have hc := pbounds_any rb s bad V0 hr0 hsz
    have HV := (show Hid _ from And.intro hc (And.intro q2 (And.intro hb0 hV0)))
    obtain ⟨x1, x2⟩ := box_cells q0
    obtain ⟨y1, y2⟩ := box_cells q1
    clear q0 q1 q2 hr0 hb0 hV0 hc
    go_wp2_with fail
    refine Calls.mono HV.out.1 ?_
    rintro e W1 ⟨h1, g1⟩
    obtain ⟨v, rfl⟩ := rdp_val h1
    have k2 := (g1.block W.heap.size (Array.getElem?_eq_some_iff.1 HV.out.2.1).1 (by simp; omega)).trans HV.out.2.1
    have hg2 : W.grownBy W1 (some rb) := by have := HV.out.2.2.2; subst this; exact grown_fr g1
    have H1 := (show Hid _ from And.intro h1 hg2)
    clear x1 x2 y1 y2 h1 g1 hg2
    obtain ⟨x1, x2⟩ := box_cells k2
    clear k2
    simp only [vlV]
    go_wp2_with fail
    refine bodyPost_ret (v := vlV v) (by simp [results, Try.results83, go_sem, x1, vlV]) rfl ?_
    obtain ⟨s9, b9, h9⟩ := rdp_rdr H1.out.1
    have hst := fun s' b h => store6 (rb := rb) (s := s') (bad := b) H1.out.2 h (Nat.le_refl W.heap.size) (by omega) (.int .i64 v.kind) (.int .i64 v.lo) (.int .i64 v.hi) (.bool v.early) (.int .i64 v.first) (.int .i64 v.rank)
    exact rdp_one (fun l => if_pos HP.out) hs hx HI.out.1 (rdp_world H1.out.1 (fun s' b h => (hst s' b h).1)) (hst _ _ h9).2
  · have fp : (p == 6) = false := by rw [beq_eq_false_iff_ne]; exact hp
    have HP := (show Hid _ from hp)
    clear hp
    go_enter Try.func83, Try.ntmps83
    go_upto_region 1 with (fail)
    obtain ⟨V0, hV0⟩ : ∃ V, V = (W.alloc (.cells #[.int .i64 0, .int .i64 0, .int .i64 0, .bool false, .int .i64 0, .int .i64 0] 62)) := ⟨_, rfl⟩
    rw [← hV0]
    have hb0 : Below W.heap.size W V0 := by rw [hV0]; exact below1 _ _
    have q0 := (hb0.block sb hsl).trans HI.out.1.1
    have q1 := (hb0.block xb hxl).trans HI.out.1.2
    have q2 : V0.heap[W.heap.size]? = some (.cells #[.int .i64 0, .int .i64 0, .int .i64 0, .bool false, .int .i64 0, .int .i64 0] 62 (0, 0)) := by rw [hV0]; exact heap_alloc_new _ _
    have hr0 : Rdr V0 rb s bad := by rw [hV0]; exact HI.out.2.alloc _
    have hc := pvalue_any rb s bad p g V0 hr0 hsz
    have HV := (show Hid _ from And.intro hc (And.intro q2 (And.intro hb0 hV0)))
    obtain ⟨x1, x2⟩ := box_cells q0
    obtain ⟨y1, y2⟩ := box_cells q1
    clear q0 q1 q2 hr0 hb0 hV0 hc
    go_wp2_with fail
    refine Calls.mono HV.out.1 ?_
    rintro e W1 ⟨h1, g1⟩
    obtain ⟨v, rfl⟩ := rdp_val h1
    have k2 := (g1.block W.heap.size (Array.getElem?_eq_some_iff.1 HV.out.2.1).1 (by simp; omega)).trans HV.out.2.1
    have hg2 : W.grownBy W1 (some rb) := by have := HV.out.2.2.2; subst this; exact grown_fr g1
    have H1 := (show Hid _ from And.intro h1 hg2)
    clear x1 x2 y1 y2 h1 g1 hg2
    obtain ⟨x1, x2⟩ := box_cells k2
    clear k2
    simp only [vlV]
    go_wp2_with fail
    refine bodyPost_ret (v := vlV v) (by simp [results, Try.results83, go_sem, x1, vlV]) rfl ?_
    obtain ⟨s9, b9, h9⟩ := rdp_rdr H1.out.1
    have hst := fun s' b h => store6 (rb := rb) (s := s') (bad := b) H1.out.2 h (Nat.le_refl W.heap.size) (by omega) (.int .i64 v.kind) (.int .i64 v.lo) (.int .i64 v.hi) (.bool v.early) (.int .i64 v.first) (.int .i64 v.rank)
    exact rdp_one (fun l => if_neg HP.out) hs hx HI.out.1 (rdp_world H1.out.1 (fun s' b h => (hst s' b h).1)) (hst _ _ h9).2
end Go.Proofs.Ytmipbiligijcpaa
