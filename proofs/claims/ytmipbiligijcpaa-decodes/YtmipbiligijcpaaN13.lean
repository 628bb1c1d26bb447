/- The program's reader: nodes. -/
import Derived.Test.YtmipbiligijcpaaO1
namespace Go.Proofs.Ytmipbiligijcpaa
set_option linter.unusedVariables false
set_option linter.unusedSimpArgs false
open Go.RowKit Go.Proofs Go.Maps

theorem NvOk.fr {P : Nat → Prop} {W W' : World} {B B' : Nat} {x : N5} (h : NvOk W B x) (hf : Fr P W W') (hP : ∀ j, B ≤ j → P j) (hB : B' ≤ B) : NvOk W' B' x :=
  ⟨own_mono (hf.own h.f (fun k hk => hP k (h.f.lt k hk).1)) hB, own_mono (hf.own h.r (fun k hk => hP k (h.r.lt k hk).1)) hB, own_mono (hf.own h.v (fun k hk => hP k (h.v.lt k hk).1)) hB, h.ap⟩
theorem NdR.up {P : Nat → Prop} {w V W W' : World} {rb : Nat} {s s0 : ByteArray} {res res' : Option (Nd × List UInt8)} {e : Ending} (h : NdR V W rb s0 res e) (hw : w.heap.size ≤ V.heap.size) (hf : Fr P W W') (hP : ∀ j, V.heap.size ≤ j → P j) (hr : P rb) (hs : s0.size ≤ s.size) (hres : res = res') : NdR w W' rb s res' e := by
  subst hres
  rcases h with ⟨x, s', h1, h2, h3, h4, h5⟩ | ⟨h1, x, s', h2, h3, h4⟩
  · exact Or.inl ⟨x, s', h1, Nat.le_trans h2 hs, h3, h4.fr hf hP hw, h5.fr hf hr⟩
  · exact Or.inr ⟨h1, x, s', h2, Nat.le_trans h3 hs, h4.fr hf hr⟩
theorem ndr_val {w W' : World} {rb : Nat} {s : ByteArray} {res : Option (Nd × List UInt8)} {e : Ending} (h : NdR w W' rb s res e) : ∃ x : N5, e = .returned (n5V x) := by
  rcases h with ⟨x, s', h1, h2, h3, h4, h5⟩ | ⟨h1, x, s', h2, h3, h4⟩
  · exact ⟨x, h3⟩
  · exact ⟨x, h2⟩
set_option maxHeartbeats 1000000 in
set_option maxRecDepth 100000 in
theorem prnode_any (rb : Nat) (p g : Int) (s : ByteArray) (bad : Bool) (w : World) (h : Rdr w rb s bad) (hs : s.size ≤ 60000) :
    Calls Try.prog 59 #[.pointer (some ⟨rb, 0, none⟩), .agg #[.int .i64 p, .int .i64 g]] w fun e W' => NdR w W' rb s (ifG bad (rnode p g) s) e ∧ Fr (fun j => j ≠ rb) w W' := by
  have hlt := h.lt
  have HR := (show Hid (Rdr w rb s bad) from h)
  clear h
  go_enter Try.func59, Try.ntmps59
  go_upto_region 1 with (fail)
  obtain ⟨V0, hV0⟩ : ∃ V, V = ((w.alloc (.cells #[.int .i64 p, .int .i64 g] 80)).alloc (.cells #[.slice none 0 0, .slice none 0 0, .bool false, .int .i64 0, .slice none 0 0] 50)) := ⟨_, rfl⟩
  rw [← hV0]
  have hz0 : V0.heap.size = w.heap.size + 2 := by rw [hV0]; simp
  obtain ⟨m0, m1⟩ := alloc2 w (.cells #[.int .i64 p, .int .i64 g] 80) (.cells #[.slice none 0 0, .slice none 0 0, .bool false, .int .i64 0, .slice none 0 0] 50)
  rw [← hV0] at m0 m1
  have hr0 : Rdr V0 rb s bad := by rw [hV0]; exact (HR.out.alloc _).alloc _
  have hf0 : Fr (fun j => j ≠ rb) w V0 := by rw [hV0]; exact Fr.of_below (below2 _ _ _)
  have H0 := (show Hid _ from And.intro m0 (And.intro m1 (And.intro hr0 hf0)))
  obtain ⟨x1, x2⟩ := box_cells m0
  clear m0 m1 hr0 hf0 hV0
  obtain ⟨bp, hL⟩ : ∃ b : Bool, decide (p ≤ 4) = b := ⟨_, rfl⟩
  cases bp with
  | true =>
    go_wp2_with fail
    refine (hasSets_any _ _ _).mono ?_
    rw [hL]
    rintro e V1 ⟨rfl, hV1⟩
    have hf1 : Fr (fun _ => True) V0 V1 := Fr.of_below (by rw [hV1]; exact below1 _ _)
    have k0 := hf1.box H0.out.1 trivial
    have k1 := hf1.box H0.out.2.1 trivial
    have hr1 := H0.out.2.2.1.fr hf1 trivial
    have hz1 := hf1.size
    have hc := prset_any rb p g s bad V1 hr1 hs
    have H1 := (show Hid _ from And.intro hc (And.intro k1 (Fr.trans H0.out.2.2.2 hf1 (fun _ _ _ => trivial))))
    clear x1 x2
    obtain ⟨x1, x2⟩ := box_cells k0
    clear k0 k1 hr1 hc hf1 hV1
    go_wp2_with fail
    refine Calls.mono H1.out.1 ?_
    rintro e W2 ⟨h2, f2⟩
    obtain ⟨x, rfl⟩ := ndr_val h2
    have k1 := f2.box H1.out.2.1 (by show _ ≠ _; omega)
    have H2 := (show Hid _ from And.intro h2 f2)
    clear x1 x2 h2 f2
    obtain ⟨x1, x2⟩ := box_cells k1
    clear k1
    simp only [n5V]
    go_wp2_with fail
    refine bodyPost_ret (v := n5V x) (by simp [results, Try.results59, go_sem, x1, n5V]) rfl ?_
    have fa := fr5 W2 (w.heap.size + 1) (.slice x.fa x.n.facts.length x.fc) (.slice x.ra x.n.ranks.length x.rc) (.bool x.n.reached) (.int .i64 x.n.rank) (.slice x.va x.n.vals.length x.vc)
    refine ⟨H2.out.1.up (by omega) fa (fun j hj => by show j ≠ _; omega) (by show rb ≠ _; omega) (Nat.le_refl _) ?_, ?_⟩
    · have hp : p ≤ 4 := of_decide_eq_true hL
      unfold ifG rnode
      cases bad with
      | true => rfl
      | false => simp only [Bool.false_eq_true, if_false]; rw [if_pos hp]
    · exact Fr.trans (Fr.trans H1.out.2.2 H2.out.2 (fun _ _ h => h)) fa (fun j h1 h2 => by show j ≠ _; omega)
  | false =>
    have HN : Hid ((∀ l r, rflag l = some (true, r) → rnode p g l = renv p g r) ∧ (∀ l r, rflag l = some (false, r) → rnode p g l = some (nd0b, r)) ∧ (∀ l, rflag l = none → rnode p g l = none)) := by
      have hp : ¬ p ≤ 4 := of_decide_eq_false hL
      refine ⟨fun l r h => ?_, fun l r h => ?_, fun l h => ?_⟩ <;> (unfold rnode; rw [if_neg hp, h])
    go_wp2_with fail
    refine (hasSets_any _ _ _).mono ?_
    rw [hL]
    rintro e V1 ⟨rfl, hV1⟩
    have hf1 : Fr (fun _ => True) V0 V1 := Fr.of_below (by rw [hV1]; exact below1 _ _)
    have k0 := hf1.box H0.out.1 trivial
    have k1 := hf1.box H0.out.2.1 trivial
    have hr1 := H0.out.2.2.1.fr hf1 trivial
    have hz1 := hf1.size
    have hc := pflag_any rb s bad V1 hr1 hs
    have H1 := (show Hid _ from And.intro hc (And.intro k0 (And.intro k1 (Fr.trans H0.out.2.2.2 hf1 (fun _ _ _ => trivial)))))
    clear x1 x2 k0 k1 hr1 hc hf1 hV1
    go_wp2_with fail
    refine Calls.mono H1.out.1 ?_
    rintro e W2 ⟨h2, g2⟩
    have f2 : Fr (fun j => j ≠ rb) V1 W2 := Fr.of_grown g2 (fun j _ hj => by simpa using hj)
    have k0 := f2.box H1.out.2.1 (by show _ ≠ _; omega)
    have k1 := f2.box H1.out.2.2.1 (by show _ ≠ _; omega)
    have hfw := Fr.trans H1.out.2.2.2 f2 (fun _ _ h => h)
    have hz2 := f2.size
    clear f2 g2
    rcases h2 with ⟨b, s1, hres, hsz, rfl, hr⟩ | ⟨hres, rfl, s1, hsz, hr⟩
    · obtain ⟨rfl, hres'⟩ := ifG_some hres
      cases b with
      | true =>
        have hc := prenv_any rb p g s1 false W2 hr (by omega)
        have H2 := (show Hid _ from And.intro hc (And.intro k1 (And.intro hfw hres')))
        obtain ⟨x1, x2⟩ := box_cells k0
        clear k0 k1 hr hc hfw hres hres'
        go_wp2_with fail
        refine Calls.mono H2.out.1 ?_
        rintro e W3 ⟨h3, f3⟩
        obtain ⟨x, rfl⟩ := ndr_val h3
        have k1 := f3.box H2.out.2.1 (by show _ ≠ _; omega)
        have H3 := (show Hid _ from And.intro h3 f3)
        clear x1 x2 h3 f3
        obtain ⟨x1, x2⟩ := box_cells k1
        clear k1
        simp only [n5V]
        go_wp2_with fail
        refine bodyPost_ret (v := n5V x) (by simp [results, Try.results59, go_sem, x1, n5V]) rfl ?_
        have fa := fr5 W3 (w.heap.size + 1) (.slice x.fa x.n.facts.length x.fc) (.slice x.ra x.n.ranks.length x.rc) (.bool x.n.reached) (.int .i64 x.n.rank) (.slice x.va x.n.vals.length x.vc)
        refine ⟨H3.out.1.up (by omega) fa (fun j hj => by show j ≠ _; omega) (by show rb ≠ _; omega) hsz ?_, ?_⟩
        · unfold ifG
          simp only [Bool.false_eq_true, if_false]
          rw [HN.out.1 _ _ H2.out.2.2.2]
        · exact Fr.trans (Fr.trans H2.out.2.2.1 H3.out.2 (fun _ _ h => h)) fa (fun j h1 h2 => by show j ≠ _; omega)
      | false =>
        have H2 := (show Hid _ from And.intro hr (And.intro hfw hres'))
        obtain ⟨x1, x2⟩ := box_cells k1
        clear k0 k1 hr hfw hres hres'
        go_wp2_with fail
        refine bodyPost_ret (v := n5V ⟨none, 0, none, 0, none, 0, nd0b⟩) (by simp [results, Try.results59, go_sem, x1, n5V, nd0b]) rfl ?_
        have fa := fr5 W2 (w.heap.size + 1) (.slice none 0 0) (.slice none 0 0) (.bool false) (.int .i64 0) (.slice none 0 0)
        refine ⟨Or.inl ⟨⟨none, 0, none, 0, none, 0, nd0b⟩, s1, ?_, hsz, rfl, ⟨World.ownsRow_nil _ _ _ _, World.ownsRow_nil _ _ _ _, World.ownsRow_nil _ _ _ _, Or.inl rfl⟩, H2.out.1.fr fa (by show rb ≠ _; omega)⟩, Fr.trans H2.out.2.1 fa (fun j h1 h2 => by show j ≠ _; omega)⟩
        unfold ifG
        simp only [Bool.false_eq_true, if_false]
        rw [HN.out.2.1 _ _ H2.out.2.2]
    · have hnone : ifG bad (rnode p g) s = none := by
        apply ifG_of
        rcases ifG_none hres with h | ⟨_, h⟩
        · exact Or.inl h
        · exact Or.inr (HN.out.2.2 _ h)
      have H2 := (show Hid _ from And.intro hr (And.intro hfw hnone))
      obtain ⟨x1, x2⟩ := box_cells k1
      clear k0 k1 hr hfw hres hnone
      go_wp2_with fail
      refine bodyPost_ret (v := n5V ⟨none, 0, none, 0, none, 0, nd0b⟩) (by simp [results, Try.results59, go_sem, x1, n5V, nd0b]) rfl ?_
      have fa := fr5 W2 (w.heap.size + 1) (.slice none 0 0) (.slice none 0 0) (.bool false) (.int .i64 0) (.slice none 0 0)
      exact ⟨Or.inr ⟨H2.out.2.2, ⟨none, 0, none, 0, none, 0, nd0b⟩, s1, rfl, hsz, H2.out.1.fr fa (by show rb ≠ _; omega)⟩, Fr.trans H2.out.2.1 fa (fun j h1 h2 => by show j ≠ _; omega)⟩
end Go.Proofs.Ytmipbiligijcpaa
