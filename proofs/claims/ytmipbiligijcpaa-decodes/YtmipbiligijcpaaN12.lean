/- The program's reader: environments. -/
import Derived.Test.YtmipbiligijcpaaN11
namespace Go.Proofs.Ytmipbiligijcpaa
set_option linter.unusedVariables false
set_option linter.unusedSimpArgs false
open Go.RowKit Go.Proofs Go.Maps

def rrank (g : Int) (l : List UInt8) : Option (Nat × List UInt8) := if g = 1 then rsm 100000 l else some (0, l)
def renv (p g : Int) (l : List UInt8) : Option (Nd × List UInt8) := match rrank g l with
  | some (rk, l1) => (match rsm 8 l1 with
    | some (k, l2) => (match rlist (stepV p g) k () l2 with
      | some ((vs, _), l3) => some (⟨[], [], true, (rk : Int), vs⟩, l3)
      | none => none)
    | none => none)
  | none => none
/-- a list of values read, whether it is good or bad -/
def LsV {σ : Type} (W' : World) (B n : Nat) (s : ByteArray) (bad : Bool) (step : σ → List UInt8 → Option ((Vl × σ) × List UInt8)) (st : σ) (la : Option Addr) (ll lc : Nat) (s' : ByteArray) (b' : Bool) : Prop :=
  s'.size ≤ s.size ∧ ((b' = false ∧ ll = n ∧ ∃ xs st', ifG bad (rlist step n st) s = some ((xs, st'), s'.data.toList) ∧ W'.ownsRow B 62 6 (.slice la n lc) n (vRow xs)) ∨ (b' = true ∧ (bad = true ∨ ifG bad (rlist step n st) s = none) ∧ la = none ∧ ll = 0 ∧ lc = 0))
theorem ListV.one {σ : Type} {w W' : World} {rb n : Nat} {s : ByteArray} {bad : Bool} {step : σ → List UInt8 → Option ((Vl × σ) × List UInt8)} {st : σ} {Inv : World → σ → Prop} {InvB : World → Prop} {e : Ending} (h : ListV w W' rb n s bad step st Inv InvB e) (hI : ∀ W st, Inv W st → InvB W) :
    ∃ la ll lc s' b', e = .returned (.slice la ll lc) ∧ LsV W' w.heap.size n s bad step st la ll lc s' b' ∧ Rdr W' rb s' b' ∧ InvB W' := by
  rcases h with ⟨xs, st', s', la, lc, h1, h2, rfl, h3, h4, h5, h6⟩ | ⟨h1, rfl, s', h2, h3, h4⟩
  · exact ⟨la, n, lc, s', false, rfl, ⟨h2, Or.inl ⟨rfl, rfl, xs, st', h1, h4⟩⟩, h5, hI _ _ h6⟩
  · exact ⟨none, 0, 0, s', true, rfl, ⟨h2, Or.inr ⟨rfl, h1, rfl, rfl, rfl⟩⟩, h3, h4⟩
theorem LsV.fr {σ : Type} {P : Nat → Prop} {w w' : World} {B n : Nat} {s : ByteArray} {bad : Bool} {step : σ → List UInt8 → Option ((Vl × σ) × List UInt8)} {st : σ} {la : Option Addr} {ll lc : Nat} {s' : ByteArray} {b' : Bool} (h : LsV w B n s bad step st la ll lc s' b') (hf : Fr P w w') (hp : ∀ k, (Value.slice la ll lc).ownBlock = some k → P k) : LsV w' B n s bad step st la ll lc s' b' := by
  refine ⟨h.1, ?_⟩
  rcases h.2 with ⟨h1, h2, xs, st', h3, h4⟩ | h
  · subst h2
    exact Or.inl ⟨h1, rfl, xs, st', h3, hf.own h4 hp⟩
  · exact Or.inr h
theorem LsV.lt {σ : Type} {w : World} {B n : Nat} {s : ByteArray} {bad : Bool} {step : σ → List UInt8 → Option ((Vl × σ) × List UInt8)} {st : σ} {la : Option Addr} {ll lc : Nat} {s' : ByteArray} {b' : Bool} (h : LsV w B n s bad step st la ll lc s' b') : ∀ k, (Value.slice la ll lc).ownBlock = some k → B ≤ k ∧ k < w.heap.size := by
  rcases h.2 with ⟨h1, h2, xs, st', h3, h4⟩ | ⟨_, _, h3, h4, h5⟩
  · subst h2
    exact h4.lt
  · intro k hk
    rw [h3] at hk
    simp [Value.ownBlock] at hk
/-- the node's box, while an environment is read -/
def EnvBx (W : World) (w : World) (rb : Nat) (p g : Int) (rk : Nat) (vv : Value) : Prop := W.heap[w.heap.size]? = some (.cells #[.pointer (some ⟨rb, 0, none⟩)] 102 (0, 0)) ∧ W.heap[w.heap.size + 1]? = some (.cells #[.int .i64 p, .int .i64 g] 80 (0, 0)) ∧ W.heap[w.heap.size + 2]? = some (.cells #[.slice none 0 0, .slice none 0 0, .bool false, .int .i64 0, .slice none 0 0] 50 (0, 0)) ∧ W.heap[w.heap.size + 3]? = some (.cells #[.slice none 0 0, .slice none 0 0, .bool true, .int .i64 (rk : Int), vv] 50 (0, 0)) ∧ w.heap.size + 4 ≤ W.heap.size
theorem EnvBx.fr {P : Nat → Prop} {W W' w : World} {rb : Nat} {p g : Int} {rk : Nat} {vv : Value} (h : EnvBx W w rb p g rk vv) (hf : Fr P W W') (hp : ∀ j, w.heap.size ≤ j → j < w.heap.size + 4 → P j) : EnvBx W' w rb p g rk vv :=
  ⟨hf.box h.1 (hp _ (by omega) (by omega)), hf.box h.2.1 (hp _ (by omega) (by omega)), hf.box h.2.2.1 (hp _ (by omega) (by omega)), hf.box h.2.2.2.1 (hp _ (by omega) (by omega)), Nat.le_trans h.2.2.2.2 hf.size⟩
theorem EnvBx.set {W w : World} {rb : Nat} {p g : Int} {rk rk' : Nat} {vv vv' : Value} (h : EnvBx W w rb p g rk vv) (o : Nat) (v : Value) (he : #[Value.slice none 0 0, .slice none 0 0, .bool true, .int .i64 (rk : Int), vv].setIfInBounds o v = #[.slice none 0 0, .slice none 0 0, .bool true, .int .i64 (rk' : Int), vv']) : EnvBx (W.setCell ⟨w.heap.size + 3, o, none⟩ v) w rb p g rk' vv' := by
  have hf := fr1 W (w.heap.size + 3) o v
  refine ⟨hf.box h.1 (by show _ ≠ _; omega), hf.box h.2.1 (by show _ ≠ _; omega), hf.box h.2.2.1 (by show _ ≠ _; omega), ?_, Nat.le_trans h.2.2.2.2 hf.size⟩
  rw [rd_set h.2.2.2.1, he]
/-- the rank read, or none asked for -/
def RkK (s : ByteArray) (bad : Bool) (g : Int) (rk : Nat) (s' : ByteArray) (b : Bool) : Prop := s'.size ≤ s.size ∧ ((b = false ∧ ifG bad (rrank g) s = some (rk, s'.data.toList)) ∨ (b = true ∧ ifG bad (rrank g) s = none))
theorem env_end {w W : World} {rb B rk k vl vc : Nat} {p g : Int} {s s1 s2 s3 : ByteArray} {bad b1 b2 b3 : Bool} {va : Option Addr} (h1 : RkK s bad g rk s1 b1) (h2 : SmK s1 b1 8 k s2 b2) (h3 : LsV W B k s2 b2 (stepV p g) () va vl vc s3 b3) (hB : w.heap.size ≤ B) (hr : Rdr W rb s3 b3) :
    NdR w W rb s (ifG bad (renv p g) s) (.returned (.agg #[.slice none 0 0, .slice none 0 0, .bool true, .int .i64 (rk : Int), .slice va vl vc])) := by
  have hz : s3.size ≤ s.size := Nat.le_trans h3.1 (Nat.le_trans h2.1 h1.1)
  cases b3 with
  | true =>
    refine Or.inr ⟨?_, ⟨none, 0, none, 0, va, vc, ⟨[], [], true, (rk : Int), List.replicate vl vl0⟩⟩, s3, by simp [n5V], hz, hr⟩
    apply ifG_of
    cases hb : bad with
    | true => exact Or.inl rfl
    | false =>
      right
      subst hb
      unfold renv
      rcases h1.2 with ⟨hb1, e1⟩ | ⟨hb1, e1⟩
      · rw [show rrank g s.data.toList = some (rk, s1.data.toList) from e1]
        simp only
        subst hb1
        rcases h2.2 with ⟨hb2, e2, _⟩ | ⟨hb2, e2, _⟩
        · rw [show rsm 8 s1.data.toList = some (k, s2.data.toList) from e2]
          simp only
          subst hb2
          rcases h3.2 with ⟨hb3, _⟩ | ⟨_, e3, _⟩
          · cases hb3
          · rcases e3 with e3 | e3
            · cases e3
            · rw [show rlist (stepV p g) k () s2.data.toList = none from e3]
        · rw [show rsm 8 s1.data.toList = none from e2]
      · rw [show rrank g s.data.toList = none from e1]
  | false =>
    rcases h3.2 with ⟨_, hl3, vs, st3, e3, o3⟩ | ⟨hb3, _⟩
    · obtain ⟨hb2, e3'⟩ := ifG_some e3
      subst hb2
      rcases h2.2 with ⟨_, e2, _⟩ | ⟨hb2, _⟩
      · obtain ⟨hb1, e2'⟩ := ifG_some e2
        subst hb1
        rcases h1.2 with ⟨_, e1⟩ | ⟨hb1, _⟩
        · obtain ⟨hb0, e1'⟩ := ifG_some e1
          subst hb0
          have l3 := rlist_len _ _ _ _ _ _ _ e3'
          subst hl3
          refine Or.inl ⟨⟨none, 0, none, 0, va, vc, ⟨[], [], true, (rk : Int), vs⟩⟩, s3, ?_, hz, by simp [n5V, l3], ⟨World.ownsRow_nil _ _ _ _, World.ownsRow_nil _ _ _ _, ?_, Or.inl rfl⟩, hr⟩
          · unfold ifG renv
            simp only [Bool.false_eq_true, if_false]
            rw [e1']
            simp only
            rw [e2']
            simp only
            rw [e3']
          · simpa [N5.vv, l3] using own_mono o3 hB
        · cases hb1
      · cases hb2
    · cases hb3
set_option maxHeartbeats 1000000 in
set_option maxRecDepth 100000 in
theorem prenv_any (rb : Nat) (p g : Int) (s : ByteArray) (bad : Bool) (w : World) (h : Rdr w rb s bad) (hs : s.size ≤ 60000) :
    Calls Try.prog 74 #[.pointer (some ⟨rb, 0, none⟩), .agg #[.int .i64 p, .int .i64 g]] w fun e W' => NdR w W' rb s (ifG bad (renv p g) s) e ∧ Fr (fun j => j ≠ rb) w W' := by
  have hlt := h.lt
  have HR := (show Hid (Rdr w rb s bad) from h)
  clear h
  go_enter Try.func74, Try.ntmps74
  go_upto_region 2 with (fail)
  obtain ⟨V0, hV0⟩ : ∃ V, V = ((((w.alloc (.cells #[.pointer (some ⟨rb, 0, none⟩)] 102)).alloc (.cells #[.int .i64 p, .int .i64 g] 80)).alloc (.cells #[.slice none 0 0, .slice none 0 0, .bool false, .int .i64 0, .slice none 0 0] 50)).alloc (.cells #[.slice none 0 0, .slice none 0 0, .bool true, .int .i64 0, .slice none 0 0] 50)) := ⟨_, rfl⟩
  rw [← hV0]
  have hb0 : EnvBx V0 w rb p g 0 (.slice none 0 0) := by
    rw [hV0]
    refine ⟨?_, ?_, ?_, ?_, by simp⟩
    · rw [Below.heap_alloc _ _ _ (by first | (simp; done) | (simp; omega)), Below.heap_alloc _ _ _ (by first | (simp; done) | (simp; omega)), Below.heap_alloc _ _ _ (by simp), heap_alloc_new]
    · rw [Below.heap_alloc _ _ _ (by first | (simp; done) | (simp; omega)), Below.heap_alloc _ _ _ (by simp)]
      exact (alloc2 w _ _).2
    · have := (alloc2 ((w.alloc (.cells #[.pointer (some ⟨rb, 0, none⟩)] 102)).alloc (.cells #[.int .i64 p, .int .i64 g] 80)) (.cells #[.slice none 0 0, .slice none 0 0, .bool false, .int .i64 0, .slice none 0 0] 50) (.cells #[.slice none 0 0, .slice none 0 0, .bool true, .int .i64 0, .slice none 0 0] 50)).1
      simpa using this
    · have := (alloc2 ((w.alloc (.cells #[.pointer (some ⟨rb, 0, none⟩)] 102)).alloc (.cells #[.int .i64 p, .int .i64 g] 80)) (.cells #[.slice none 0 0, .slice none 0 0, .bool false, .int .i64 0, .slice none 0 0] 50) (.cells #[.slice none 0 0, .slice none 0 0, .bool true, .int .i64 0, .slice none 0 0] 50)).2
      simpa using this
  have hr0 : Rdr V0 rb s bad := by rw [hV0]; exact (((HR.out.alloc _).alloc _).alloc _).alloc _
  have hf0 : Fr (fun j => j ≠ rb) w V0 := by rw [hV0]; exact Fr.of_below (below4 _ _ _ _ _)
  have H0 := (show Hid _ from And.intro hb0 (And.intro hr0 hf0))
  obtain ⟨x1, x2⟩ := box_cells hb0.2.1
  clear hb0 hr0 hf0 hV0
  have hstart : ∃ b : Bool, decide (g = 1) = b := ⟨_, rfl⟩
  obtain ⟨bg, hL⟩ := hstart
  cases bg
  · go_wp2_with fail
    refine (isLeast_any _ _ _).mono ?_
    rw [hL]
    rintro e W1 ⟨rfl, hV3⟩
    have hf3 : Fr (fun _ => True) V0 W1 := Fr.of_below (by rw [hV3]; exact below1 _ _)
    have HA : Hid (∃ rk s1 b1, EnvBx W1 w rb p g rk (.slice none 0 0) ∧ RkK s bad g rk s1 b1 ∧ Rdr W1 rb s1 b1 ∧ Fr (fun j => j ≠ rb) w W1) := by
      refine ⟨0, s, bad, H0.out.1.fr hf3 (fun _ _ _ => trivial), ⟨Nat.le_refl _, ?_⟩, H0.out.2.1.fr hf3 trivial, Fr.trans H0.out.2.2 hf3 (fun _ _ _ => trivial)⟩
      have hg : ¬ g = 1 := of_decide_eq_false hL
      cases bad with
      | true => exact Or.inr ⟨rfl, rfl⟩
      | false => exact Or.inl ⟨rfl, by unfold ifG rrank; simp only [Bool.false_eq_true, if_false]; rw [if_neg hg]⟩
    clear hV3 hf3 x1 x2
    go_upto_region 4 with (fail)
    obtain ⟨rk, s1, b1, hb1, hk1, hr1, hf1⟩ := HA.out
    have hz1 : w.heap.size + 4 ≤ W1.heap.size := hb1.2.2.2.2
    have hc := fun (V : World) (hV : Rdr V rb s1 b1) => psmall_one rb s1 b1 8 V hV (by have := hk1.1; omega) ⟨by omega, by omega⟩
    have hcl := fun (V : World) (k : Nat) (s2 : ByteArray) (b2 : Bool) (hs2 : s2.size ≤ 60000) (hk : k ≤ 8) (hV : Rdr V rb s2 b2) (hI : InvE (w.heap.size + 1) w.heap.size rb p g V) (hsz : ∀ j, (j = w.heap.size + 1 ∨ j = w.heap.size) → j < V.heap.size) => plistV_any (stepV p g) (fun W (_ : Unit) => InvE (w.heap.size + 1) w.heap.size rb p g W) (InvE (w.heap.size + 1) w.heap.size rb p g) (fun j => j = w.heap.size + 1 ∨ j = w.heap.size) (w.heap.size + 1) w.heap.size rb k s2 b2 () V
      (fun W st s bad h1 h2 h3 => penv1_any _ _ _ p g (by omega) (by omega) W s bad h1 h2 h3)
      (fun W W' st h1 h2 => ⟨(h2 _ (Or.inl rfl)).trans h1.1, (h2 _ (Or.inr rfl)).trans h1.2⟩)
      (fun W W' h1 h2 => ⟨(h2 _ (Or.inl rfl)).trans h1.1, (h2 _ (Or.inr rfl)).trans h1.2⟩)
      (fun W st h1 => h1) hsz hV hI hs2 (by omega)
    have HP := (show Hid _ from And.intro hc (And.intro hcl (And.intro hb1 (And.intro hk1 (And.intro hr1 hf1)))))
    obtain ⟨x1, x2⟩ := box_cells hb1.1
    clear hc hcl hb1 hk1 hr1 hf1 HA
    go_cut [] from 12 (fun wx => ∃ (va : Option Addr) (vl vc k : Nat) (s2 s3 : ByteArray) (b2 b3 : Bool), Hid (EnvBx wx w rb p g rk (.slice va vl vc) ∧ SmK s1 b1 8 k s2 b2 ∧ LsV wx W1.heap.size k s2 b2 (stepV p g) () va vl vc s3 b3 ∧ Rdr wx rb s3 b3 ∧ Fr (fun j => j ≠ rb) w wx ∧ W1.heap.size ≤ wx.heap.size))
    case first =>
      go_region_law (first | (have _ := H4; go_simp; refine (HP.out.2.1 _ k s2 b2 hs2 hk8 (by exact H4.out.2.1) (by exact ⟨H4.out.2.2.1.2.1, H4.out.2.2.1.1⟩) (by intro j hj; have h9 := H4.out.2.2.1.2.2.2.2; rcases hj with rfl | rfl <;> (show _ < W4.heap.size; omega))).mono ?_; rintro e W5 ⟨h5, f5⟩; obtain ⟨va, vl, vc, s3, b3, rfl, hls, hr5, hi5⟩ := h5.one (fun W st h1 => h1); have hnb := f5.box H4.out.2.2.1.2.2.2.1 (show _ ∧ _ from ⟨by omega, by omega⟩); obtain ⟨z1, z2⟩ := box_cells hnb; have H5 := (show Hid _ from And.intro hls (And.intro hr5 (And.intro hi5 (And.intro f5 hnb)))); clear hls hr5 hi5 f5 h5 hnb) | (go_simp; refine (HP.out.1 _ (by exact HP.out.2.2.2.2.1)).mono ?_; rintro e W4 ⟨k, s2, b2, rfl, hk, hr4, g4⟩; have hf4 : Fr (fun j => j ≠ rb) W1 W4 := Fr.trans (Fr.of_below (P := fun j => j ≠ rb) (by repeat (first | with_reducible exact Below.refl _ _ | with_reducible refine below_drewN ?_ _ | with_reducible refine Below.drew ?_))) (Fr.of_grown g4 (fun j _ hj => by simpa using hj)) (fun _ _ hj => hj); have hb4 := HP.out.2.2.1.fr hf4 (fun j hj _ => by show j ≠ rb; omega); have hs2 : s2.size ≤ 60000 := (by have := hk.1; have := HP.out.2.2.2.1.1; omega); have hk8 : k ≤ 8 := (by rcases hk.2 with ⟨_, _, q⟩ | ⟨_, _, q⟩ <;> omega); obtain ⟨y1, y2⟩ := box_cells hb4.1; have H4 := (show Hid _ from And.intro hk (And.intro hr4 (And.intro hb4 hf4))); clear hk hr4 hb4 hf4 g4))
      all_goals
        go_wp2_with fail
        go_meet
        case rel =>
          obtain ⟨k1, k2, k3, k4, k5⟩ := H5.out
          have hsz5 := k4.size
          have hfr := H4.out.2.2.2
          have hsz4 := hfr.size
          have hb5 : EnvBx W5 w rb p g rk (.slice none 0 0) := ⟨k3.2, k3.1, k4.box H4.out.2.2.1.2.2.1 (show _ ∧ _ from ⟨by omega, by omega⟩), k5, Nat.le_trans (Nat.le_trans hz1 hsz4) hsz5⟩
          have hst := fr1 W5 (w.heap.size + 3) 4 (.slice va vl vc)
          refine ⟨va, vl, vc, k, s2, s3, b2, b3, hb5.set 4 _ rfl, H4.out.1, ?_, k2.fr hst (by show rb ≠ _; omega), ?_, Nat.le_trans (Nat.le_trans hsz4 hsz5) hst.size⟩
          · have hl : LsV W5 W1.heap.size k s2 b2 (stepV p g) () va vl vc s3 b3 := by
              refine ⟨k1.1, ?_⟩
              rcases k1.2 with ⟨h1, h2, xs, st', h3, h4⟩ | h
              · exact Or.inl ⟨h1, h2, xs, st', h3, own_mono h4 hsz4⟩
              · exact Or.inr h
            exact hl.fr hst (fun j hj => by have := (hl.lt j hj).1; show j ≠ _; omega)
          · have f6 : Fr (fun j => j ≠ rb ∧ j < w.heap.size) W4 W5 := Fr.trans (Fr.of_below (P := fun j => j ≠ rb ∧ j < w.heap.size) (by repeat (first | with_reducible exact Below.refl _ _ | with_reducible refine below_drewN ?_ _ | with_reducible refine Below.drew ?_))) (k4.mono (fun j _ (hj : j ≠ rb ∧ j < w.heap.size) => ⟨hj.1, by omega⟩)) (fun _ _ h => h)
            exact Fr.trans (Fr.trans (Fr.trans HP.out.2.2.2.2.2 hfr (fun _ _ h => h)) f6 (fun j h1 h2 => ⟨h2, h1⟩)) hst (fun j h1 _ => by show j ≠ _; omega)
    case rest =>
      obtain ⟨va, vl, vc, k, s2, s3, b2, b3, HC⟩ := hcut
      rename World => W6
      clear x1 x2
      obtain ⟨x1, x2⟩ := box_cells HC.out.1.2.2.2.1
      obtain ⟨y1, y2⟩ := box_cells HC.out.1.2.2.1
      go_wp2_with fail
      refine bodyPost_ret (v := .agg #[.slice none 0 0, .slice none 0 0, .bool true, .int .i64 (rk : Int), .slice va vl vc]) (by simp [results, Try.results74, go_sem, y1]) rfl ?_
      have fa2 := fr5 W6 (w.heap.size + 1 + 1) (.slice none 0 0) (.slice none 0 0) (.bool true) (.int .i64 (rk : Int)) (.slice va vl vc)
      refine ⟨env_end HP.out.2.2.2.1 HC.out.2.1 (HC.out.2.2.1.fr fa2 (fun j hj => by have := (HC.out.2.2.1.lt j hj).1; show j ≠ _; omega)) (by omega) (HC.out.2.2.2.1.fr fa2 (by show rb ≠ _; omega)), ?_⟩
      exact Fr.trans HC.out.2.2.2.2.1 fa2 (fun j h1 h2 => by show j ≠ _; omega)
  · go_wp2_with fail
    refine (isLeast_any _ _ _).mono ?_
    rw [hL]
    rintro e V3 ⟨rfl, hV3⟩
    have hf3 : Fr (fun _ => True) V0 V3 := Fr.of_below (by rw [hV3]; exact below1 _ _)
    have hb3 := H0.out.1.fr hf3 (fun _ _ _ => trivial)
    have hr3 := H0.out.2.1.fr hf3 trivial
    have hc := prank_any rb s bad V3 hr3 hs
    have H3 := (show Hid _ from And.intro hc (And.intro hb3 (Fr.trans H0.out.2.2 hf3 (fun _ _ _ => trivial))))
    clear x1 x2 hV3 hf3 hr3 hc
    obtain ⟨x1, x2⟩ := box_cells hb3.1
    clear hb3
    go_wp2_with fail
    refine Calls.mono H3.out.1 ?_
    rintro e W2 ⟨h2, g2⟩
    have hf2 : Fr (fun j => j ≠ rb) V3 W2 := Fr.of_grown g2 (fun j _ hj => by simpa using hj)
    have hb2 := H3.out.2.1.fr hf2 (fun j hj _ => by show j ≠ rb; omega)
    obtain ⟨rk, s1, b1, rfl, hk1, hr1⟩ : ∃ (rk : Nat) (s1 : ByteArray) (b1 : Bool), e = .returned (.int .i64 (rk : Int)) ∧ RkK s bad g rk s1 b1 ∧ Rdr W2 rb s1 b1 := by
      have hg : g = 1 := of_decide_eq_true hL
      have hq : ∀ l, rrank g l = rsm 100000 l := fun l => by unfold rrank; rw [if_pos hg]
      rcases h2 with ⟨n, s', r1, r2, r3, r4⟩ | ⟨r1, r3, s', r2, r4⟩
      · obtain ⟨hb, r1'⟩ := ifG_some r1
        subst hb
        exact ⟨n, s', false, r3, ⟨r2, Or.inl ⟨rfl, by unfold ifG; simp only [Bool.false_eq_true, if_false]; rw [hq, r1']⟩⟩, r4⟩
      · refine ⟨0, s', true, r3, ⟨r2, Or.inr ⟨rfl, ifG_of ?_⟩⟩, r4⟩
        rcases ifG_none r1 with r | ⟨_, r⟩
        · exact Or.inl r
        · right; rw [hq, r]
    have HB : Hid (∀ W1, W1 = W2.setCell ⟨w.heap.size + 3, 3, none⟩ (.int .i64 (rk : Int)) → ∃ rk s1 b1, EnvBx W1 w rb p g rk (.slice none 0 0) ∧ RkK s bad g rk s1 b1 ∧ Rdr W1 rb s1 b1 ∧ Fr (fun j => j ≠ rb) w W1) := by
      intro W1 hW1
      subst hW1
      exact ⟨rk, s1, b1, hb2.set 3 _ rfl, hk1, hr1.fr (fr1 _ _ _ _) (by show rb ≠ _; omega), Fr.trans (Fr.trans H3.out.2.2 hf2 (fun _ _ h => h)) (fr1 _ _ _ _) (fun j h1 _ => by show j ≠ _; omega)⟩
    clear x1 x2
    obtain ⟨x1, x2⟩ := box_cells hb2.2.2.2.1
    clear hf2 hb2 h2 g2 hk1 hr1
    go_upto_region 4 with (fail)
    obtain ⟨W1, hW1⟩ : ∃ V, V = W2.setCell ⟨w.heap.size + 1 + 1 + 1, 3, none⟩ (.int .i64 (rk : Int)) := ⟨_, rfl⟩
    rw [← hW1]
    have HA := (show Hid _ from HB.out W1 hW1)
    clear hW1 HB x1 x2
    obtain ⟨rk, s1, b1, hb1, hk1, hr1, hf1⟩ := HA.out
    have hz1 : w.heap.size + 4 ≤ W1.heap.size := hb1.2.2.2.2
    have hc := fun (V : World) (hV : Rdr V rb s1 b1) => psmall_one rb s1 b1 8 V hV (by have := hk1.1; omega) ⟨by omega, by omega⟩
    have hcl := fun (V : World) (k : Nat) (s2 : ByteArray) (b2 : Bool) (hs2 : s2.size ≤ 60000) (hk : k ≤ 8) (hV : Rdr V rb s2 b2) (hI : InvE (w.heap.size + 1) w.heap.size rb p g V) (hsz : ∀ j, (j = w.heap.size + 1 ∨ j = w.heap.size) → j < V.heap.size) => plistV_any (stepV p g) (fun W (_ : Unit) => InvE (w.heap.size + 1) w.heap.size rb p g W) (InvE (w.heap.size + 1) w.heap.size rb p g) (fun j => j = w.heap.size + 1 ∨ j = w.heap.size) (w.heap.size + 1) w.heap.size rb k s2 b2 () V
      (fun W st s bad h1 h2 h3 => penv1_any _ _ _ p g (by omega) (by omega) W s bad h1 h2 h3)
      (fun W W' st h1 h2 => ⟨(h2 _ (Or.inl rfl)).trans h1.1, (h2 _ (Or.inr rfl)).trans h1.2⟩)
      (fun W W' h1 h2 => ⟨(h2 _ (Or.inl rfl)).trans h1.1, (h2 _ (Or.inr rfl)).trans h1.2⟩)
      (fun W st h1 => h1) hsz hV hI hs2 (by omega)
    have HP := (show Hid _ from And.intro hc (And.intro hcl (And.intro hb1 (And.intro hk1 (And.intro hr1 hf1)))))
    obtain ⟨x1, x2⟩ := box_cells hb1.1
    clear hc hcl hb1 hk1 hr1 hf1 HA
    go_cut [] from 12 (fun wx => ∃ (va : Option Addr) (vl vc k : Nat) (s2 s3 : ByteArray) (b2 b3 : Bool), Hid (EnvBx wx w rb p g rk (.slice va vl vc) ∧ SmK s1 b1 8 k s2 b2 ∧ LsV wx W1.heap.size k s2 b2 (stepV p g) () va vl vc s3 b3 ∧ Rdr wx rb s3 b3 ∧ Fr (fun j => j ≠ rb) w wx ∧ W1.heap.size ≤ wx.heap.size))
    case first =>
      go_region_law (first | (have _ := H4; go_simp; refine (HP.out.2.1 _ k s2 b2 hs2 hk8 (by exact H4.out.2.1) (by exact ⟨H4.out.2.2.1.2.1, H4.out.2.2.1.1⟩) (by intro j hj; have h9 := H4.out.2.2.1.2.2.2.2; rcases hj with rfl | rfl <;> (show _ < W4.heap.size; omega))).mono ?_; rintro e W5 ⟨h5, f5⟩; obtain ⟨va, vl, vc, s3, b3, rfl, hls, hr5, hi5⟩ := h5.one (fun W st h1 => h1); have hnb := f5.box H4.out.2.2.1.2.2.2.1 (show _ ∧ _ from ⟨by omega, by omega⟩); obtain ⟨z1, z2⟩ := box_cells hnb; have H5 := (show Hid _ from And.intro hls (And.intro hr5 (And.intro hi5 (And.intro f5 hnb)))); clear hls hr5 hi5 f5 h5 hnb) | (go_simp; refine (HP.out.1 _ (by exact HP.out.2.2.2.2.1)).mono ?_; rintro e W4 ⟨k, s2, b2, rfl, hk, hr4, g4⟩; have hf4 : Fr (fun j => j ≠ rb) W1 W4 := Fr.trans (Fr.of_below (P := fun j => j ≠ rb) (by repeat (first | with_reducible exact Below.refl _ _ | with_reducible refine below_drewN ?_ _ | with_reducible refine Below.drew ?_))) (Fr.of_grown g4 (fun j _ hj => by simpa using hj)) (fun _ _ hj => hj); have hb4 := HP.out.2.2.1.fr hf4 (fun j hj _ => by show j ≠ rb; omega); have hs2 : s2.size ≤ 60000 := (by have := hk.1; have := HP.out.2.2.2.1.1; omega); have hk8 : k ≤ 8 := (by rcases hk.2 with ⟨_, _, q⟩ | ⟨_, _, q⟩ <;> omega); obtain ⟨y1, y2⟩ := box_cells hb4.1; have H4 := (show Hid _ from And.intro hk (And.intro hr4 (And.intro hb4 hf4))); clear hk hr4 hb4 hf4 g4))
      all_goals
        go_wp2_with fail
        go_meet
        case rel =>
          obtain ⟨k1, k2, k3, k4, k5⟩ := H5.out
          have hsz5 := k4.size
          have hfr := H4.out.2.2.2
          have hsz4 := hfr.size
          have hb5 : EnvBx W5 w rb p g rk (.slice none 0 0) := ⟨k3.2, k3.1, k4.box H4.out.2.2.1.2.2.1 (show _ ∧ _ from ⟨by omega, by omega⟩), k5, Nat.le_trans (Nat.le_trans hz1 hsz4) hsz5⟩
          have hst := fr1 W5 (w.heap.size + 3) 4 (.slice va vl vc)
          refine ⟨va, vl, vc, k, s2, s3, b2, b3, hb5.set 4 _ rfl, H4.out.1, ?_, k2.fr hst (by show rb ≠ _; omega), ?_, Nat.le_trans (Nat.le_trans hsz4 hsz5) hst.size⟩
          · have hl : LsV W5 W1.heap.size k s2 b2 (stepV p g) () va vl vc s3 b3 := by
              refine ⟨k1.1, ?_⟩
              rcases k1.2 with ⟨h1, h2, xs, st', h3, h4⟩ | h
              · exact Or.inl ⟨h1, h2, xs, st', h3, own_mono h4 hsz4⟩
              · exact Or.inr h
            exact hl.fr hst (fun j hj => by have := (hl.lt j hj).1; show j ≠ _; omega)
          · have f6 : Fr (fun j => j ≠ rb ∧ j < w.heap.size) W4 W5 := Fr.trans (Fr.of_below (P := fun j => j ≠ rb ∧ j < w.heap.size) (by repeat (first | with_reducible exact Below.refl _ _ | with_reducible refine below_drewN ?_ _ | with_reducible refine Below.drew ?_))) (k4.mono (fun j _ (hj : j ≠ rb ∧ j < w.heap.size) => ⟨hj.1, by omega⟩)) (fun _ _ h => h)
            exact Fr.trans (Fr.trans (Fr.trans HP.out.2.2.2.2.2 hfr (fun _ _ h => h)) f6 (fun j h1 h2 => ⟨h2, h1⟩)) hst (fun j h1 _ => by show j ≠ _; omega)
    case rest =>
      obtain ⟨va, vl, vc, k, s2, s3, b2, b3, HC⟩ := hcut
      rename World => W6
      clear x1 x2
      obtain ⟨x1, x2⟩ := box_cells HC.out.1.2.2.2.1
      obtain ⟨y1, y2⟩ := box_cells HC.out.1.2.2.1
      go_wp2_with fail
      refine bodyPost_ret (v := .agg #[.slice none 0 0, .slice none 0 0, .bool true, .int .i64 (rk : Int), .slice va vl vc]) (by simp [results, Try.results74, go_sem, y1]) rfl ?_
      have fa2 := fr5 W6 (w.heap.size + 1 + 1) (.slice none 0 0) (.slice none 0 0) (.bool true) (.int .i64 (rk : Int)) (.slice va vl vc)
      refine ⟨env_end HP.out.2.2.2.1 HC.out.2.1 (HC.out.2.2.1.fr fa2 (fun j hj => by have := (HC.out.2.2.1.lt j hj).1; show j ≠ _; omega)) (by omega) (HC.out.2.2.2.1.fr fa2 (by show rb ≠ _; omega)), ?_⟩
      exact Fr.trans HC.out.2.2.2.2.1 fa2 (fun j h1 h2 => by show j ≠ _; omega)
end Go.Proofs.Ytmipbiligijcpaa
