/- The program's reader: certificates. -/
import Derived.Test.YtmipbiligijcpaaN14
import Derived.Test.YtmipbiligijcpaaO2
namespace Go.Proofs.Ytmipbiligijcpaa
set_option linter.unusedVariables false
set_option linter.unusedSimpArgs false
open Go.RowKit Go.Proofs Go.Maps

/-- a byte read, whether it is good or bad -/
structure OcK (s : ByteArray) (bad : Bool) (b : UInt8) (s' : ByteArray) (b' : Bool) : Prop where
  sz : s'.size ≤ s.size
  how : (b' = false ∧ bad = false ∧ s.data.toList = b :: s'.data.toList) ∨ (b' = true ∧ b = 0 ∧ (bad = true ∨ s.data.toList = []))
theorem poct_one (rb : Nat) (s : ByteArray) (bad : Bool) (w : World) (h : Rdr w rb s bad) (hs : s.size ≤ 60000) :
    Calls Try.prog 55 #[.pointer (some ⟨rb, 0, none⟩)] w fun e w' => ∃ (b : UInt8) (s' : ByteArray) (b' : Bool), e = .returned (.int .u8 (b.toNat : Int)) ∧ OcK s bad b s' b' ∧ Rdr w' rb s' b' ∧ w.grownBy w' (some rb) := by
  refine (poctet_any rb s bad w h hs).mono ?_
  rintro e w' ⟨h1, g⟩
  rcases h1 with ⟨b, s', hres, hsz, rfl, hr⟩ | ⟨hres, rfl, s', hsz, hr⟩
  · obtain ⟨h1, h2⟩ := oct_inv hres
    exact ⟨b, s', false, rfl, ⟨hsz, Or.inl ⟨rfl, h1, h2⟩⟩, hr, g⟩
  · refine ⟨0, s', true, rfl, ⟨hsz, Or.inr ⟨rfl, rfl, ?_⟩⟩, hr, g⟩
    rcases ifG_none hres with h | ⟨_, h⟩
    · exact Or.inl h
    · right
      unfold roct at h
      split at h
      · cases h
      · assumption
theorem known_0 (d : Int) : known 0 d = false := by simp [known]
theorem known_1 (p : Int) : known p 0 = false := by simp [known]
theorem cert_no {s s1 s2 : ByteArray} {b d : UInt8} {x1 x2 : Bool} (h1 : OcK s false b s1 x1) (h2 : OcK s1 x1 d s2 x2) (hk : known (b.toNat : Int) (d.toNat : Int) = false) : rcert s.data.toList = none := by
  rcases h1.2 with ⟨_, _, e1⟩ | ⟨_, _, e1⟩
  · rw [e1]
    rcases h2.2 with ⟨_, _, e2⟩ | ⟨_, _, e2⟩
    · rw [e2]
      unfold rcert
      simp only
      rw [hk]
      simp
    · rcases e2 with e2 | e2
      · subst e2
        rcases h1.2 with ⟨h, _⟩ | ⟨_, _, h⟩
        · cases h
        · rcases h with h | h
          · cases h
          · rw [h] at e1; cases e1
      · rw [e2]; rfl
  · rcases e1 with e1 | e1
    · cases e1
    · rw [e1]; rfl
theorem cert_yes {s s1 s2 : ByteArray} {b d : UInt8} {x1 x2 : Bool} (h1 : OcK s false b s1 x1) (h2 : OcK s1 x1 d s2 x2) (hk : known (b.toNat : Int) (d.toNat : Int) = true) : x2 = false ∧ s.data.toList = b :: d :: s2.data.toList := by
  rcases h1.2 with ⟨_, _, e1⟩ | ⟨_, e, _⟩
  · rcases h2.2 with ⟨h, _, e2⟩ | ⟨_, e, _⟩
    · exact ⟨h, by rw [e1, e2]⟩
    · subst e
      have := known_1 (b.toNat : Int)
      rw [show (((0 : UInt8).toNat : Nat) : Int) = 0 from rfl] at hk
      rw [this] at hk; cases hk
  · subst e
    have := known_0 (d.toNat : Int)
    rw [show (((0 : UInt8).toNat : Nat) : Int) = 0 from rfl] at hk
    rw [this] at hk; cases hk
theorem fr3 (W : World) (b : Nat) (a0 a1 a2 : Value) : Fr (fun j => j ≠ b) W (((W.setCell ⟨b, 0, none⟩ a0).setCell ⟨b, 1, none⟩ a1).setCell ⟨b, 2, none⟩ a2) :=
  Fr.trans (Fr.trans (fr1 _ _ _ _) (fr1 _ _ _ _) (fun _ _ h => h)) (fr1 _ _ _ _) (fun _ _ h => h)
/-- a list of nodes read, whether it is good or bad -/
def LsN (W' : World) (B n : Nat) (s : ByteArray) (bad : Bool) (p g : Int) (la : Option Addr) (ll lc : Nat) (s' : ByteArray) (b' : Bool) : Prop :=
  s'.size ≤ s.size ∧ ((b' = false ∧ ll = n ∧ ∃ cl : List N5, ifG bad (rlist (stepN p g) n ()) s = some ((cl.map N5.n, ()), s'.data.toList) ∧ W'.ownsRow B 50 5 (.slice la n lc) n (nRow cl) ∧ (∀ c ∈ cl, NvOk W' B c) ∧ ApL cl) ∨ (b' = true ∧ (bad = true ∨ ifG bad (rlist (stepN p g) n ()) s = none) ∧ la = none ∧ ll = 0 ∧ lc = 0))
theorem ListN.one {w W' : World} {rb n : Nat} {s : ByteArray} {bad : Bool} {p g : Int} {e : Ending} (h : ListN w W' rb n s bad p g e) :
    ∃ la ll lc s' b', e = .returned (.slice la ll lc) ∧ LsN W' w.heap.size n s bad p g la ll lc s' b' ∧ Rdr W' rb s' b' := by
  rcases h with ⟨cl, s', la, lc, h1, h2, rfl, h3, h4, h5, h6, h7⟩ | ⟨h1, rfl, s', h2, h3⟩
  · exact ⟨la, n, lc, s', false, rfl, ⟨h2, Or.inl ⟨rfl, rfl, cl, h1, h4, h5, h6⟩⟩, h7⟩
  · exact ⟨none, 0, 0, s', true, rfl, ⟨h2, Or.inr ⟨rfl, h1, rfl, rfl, rfl⟩⟩, h3⟩
theorem LsN.fr {P : Nat → Prop} {w w' : World} {B B' n : Nat} {s : ByteArray} {bad : Bool} {p g : Int} {la : Option Addr} {ll lc : Nat} {s' : ByteArray} {b' : Bool} (h : LsN w B n s bad p g la ll lc s' b') (hf : Fr P w w') (hp : ∀ k, B ≤ k → P k) (hB : B' ≤ B) : LsN w' B' n s bad p g la ll lc s' b' := by
  refine ⟨h.1, ?_⟩
  rcases h.2 with ⟨h1, h2, cl, h3, h4, h5, h6⟩ | h
  · exact Or.inl ⟨h1, h2, cl, h3, own_mono (hf.own h4 (fun k hk => hp k (h4.lt k hk).1)) hB, fun c hc => (h5 c hc).fr hf hp hB, h6⟩
  · exact Or.inr h
/-- the boxes while a certificate is read -/
def CertBx (W : World) (w : World) (rb sb : Nat) (p g : Int) (nv : Value) : Prop := W.heap[w.heap.size]? = some (.cells #[.pointer (some ⟨rb, 0, none⟩)] 102 (0, 0)) ∧ W.heap[w.heap.size + 1]? = some (.cells #[.int .i64 0, .int .i64 0, .slice none 0 0] 24 (0, 0)) ∧ W.heap[w.heap.size + 2]? = some (.cells #[.int .i64 p, .int .i64 g, nv] 24 (0, 0)) ∧ W.heap[sb]? = some (.cells #[.int .i64 p, .int .i64 g] 80 (0, 0)) ∧ w.heap.size + 3 ≤ sb ∧ sb < W.heap.size
theorem CertBx.fr {P : Nat → Prop} {W W' w : World} {rb sb : Nat} {p g : Int} {nv : Value} (h : CertBx W w rb sb p g nv) (hf : Fr P W W') (hp : ∀ j, w.heap.size ≤ j → P j) : CertBx W' w rb sb p g nv :=
  ⟨hf.box h.1 (hp _ (by omega)), hf.box h.2.1 (hp _ (by omega)), hf.box h.2.2.1 (hp _ (by omega)), hf.box h.2.2.2.1 (hp _ (by have := h.2.2.2.2.1; omega)), h.2.2.2.2.1, Nat.lt_of_lt_of_le h.2.2.2.2.2 hf.size⟩
/-- what reading a certificate answers -/
def CtR (w W' : World) (rb : Nat) (s : ByteArray) (e : Ending) : Prop :=
  (∃ (c : Ct) (cl : List N5) (s' : ByteArray) (la : Option Addr) (lc : Nat), rcert s.data.toList = some (c, s'.data.toList) ∧ c.nodes = cl.map N5.n ∧ e = .returned (.agg #[.int .i64 c.problem, .int .i64 c.grade, .slice la c.nodes.length lc]) ∧ W'.ownsRow w.heap.size 50 5 (.slice la c.nodes.length lc) c.nodes.length (nRow cl) ∧ (∀ c ∈ cl, NvOk W' w.heap.size c) ∧ ApL cl ∧ Rdr W' rb s' false) ∨
  (rcert s.data.toList = none ∧ ∃ (p g : Int) (la : Option Addr) (ll lc : Nat) (s' : ByteArray), e = .returned (.agg #[.int .i64 p, .int .i64 g, .slice la ll lc]) ∧ Rdr W' rb s' true)
theorem cert_end {w W : World} {rb B k ll lc : Nat} {b d : UInt8} {s s2 s3 s4 : ByteArray} {x3 x4 : Bool} {la : Option Addr} (hs : s.data.toList = b :: d :: s2.data.toList) (hk : known (b.toNat : Int) (d.toNat : Int) = true) (h1 : SmK s2 false 60 k s3 x3) (h2 : LsN W B k s3 x3 (b.toNat : Int) (d.toNat : Int) la ll lc s4 x4) (hB : w.heap.size ≤ B) (hr : Rdr W rb s4 x4) :
    CtR w W rb s (.returned (.agg #[.int .i64 (b.toNat : Int), .int .i64 (d.toNat : Int), .slice la ll lc])) := by
  cases x4 with
  | true =>
    refine Or.inr ⟨?_, _, _, la, ll, lc, s4, rfl, hr⟩
    rw [hs]
    unfold rcert
    simp only
    rw [if_pos hk]
    rcases h1.2 with ⟨e0, e1, _⟩ | ⟨e0, e1, _⟩
    · subst e0
      rw [show rsm 60 s2.data.toList = some (k, s3.data.toList) from e1]
      simp only
      rcases h2.2 with ⟨e2, _⟩ | ⟨_, e2, _⟩
      · cases e2
      · rcases e2 with e2 | e2
        · cases e2
        · rw [show rlist (stepN (b.toNat : Int) (d.toNat : Int)) k () s3.data.toList = none from e2]
    · rw [show rsm 60 s2.data.toList = none from e1]
  | false =>
    rcases h2.2 with ⟨_, hl, cl, e2, o2, v2, a2⟩ | ⟨e, _⟩
    · obtain ⟨e0, e2'⟩ := ifG_some e2
      subst e0
      rcases h1.2 with ⟨_, e1, _⟩ | ⟨e, _⟩
      · have hn := rlist_len _ _ _ _ _ _ _ e2'
        subst hl
        refine Or.inl ⟨⟨(b.toNat : Int), (d.toNat : Int), cl.map N5.n⟩, cl, s4, la, lc, ?_, rfl, by simp only; rw [hn], by simp only; rw [hn]; exact own_mono o2 hB, fun c hc => ?_, a2, hr⟩
        · rw [hs]
          unfold rcert
          simp only
          rw [if_pos hk, show rsm 60 s2.data.toList = some (ll, s3.data.toList) from e1]
          simp only
          rw [e2']
        · have := v2 c hc
          exact ⟨own_mono this.f hB, own_mono this.r hB, own_mono this.v hB, this.ap⟩
      · cases e
    · cases e
set_option maxHeartbeats 1000000 in
set_option maxRecDepth 100000 in
theorem prcert_any (rb : Nat) (s : ByteArray) (w : World) (h : Rdr w rb s false) (hs : s.size ≤ 60000) :
    Calls Try.prog 40 #[.pointer (some ⟨rb, 0, none⟩)] w fun e W' => CtR w W' rb s e ∧ Fr (fun j => j ≠ rb) w W' := by
  have hlt := h.lt
  have HR := (show Hid (Rdr w rb s false) from h)
  clear h
  go_enter Try.func40, Try.ntmps40
  go_upto_region 2 with (fail)
  obtain ⟨V0, hV0⟩ : ∃ V, V = (((w.alloc (.cells #[.pointer (some ⟨rb, 0, none⟩)] 102)).alloc (.cells #[.int .i64 0, .int .i64 0, .slice none 0 0] 24)).alloc (.cells #[.int .i64 0, .int .i64 0, .slice none 0 0] 24)) := ⟨_, rfl⟩
  rw [← hV0]
  have hz0 : V0.heap.size = w.heap.size + 3 := by rw [hV0]; simp
  have m0 : V0.heap[w.heap.size]? = some (.cells #[.pointer (some ⟨rb, 0, none⟩)] 102 (0, 0)) := by
    rw [hV0, Below.heap_alloc _ _ _ (by simp; omega), Below.heap_alloc _ _ _ (by simp), heap_alloc_new]
  have m1 : V0.heap[w.heap.size + 1]? = some (.cells #[.int .i64 0, .int .i64 0, .slice none 0 0] 24 (0, 0)) := by
    rw [hV0, Below.heap_alloc _ _ _ (by simp)]
    exact (alloc2 w _ _).2
  have m2 : V0.heap[w.heap.size + 2]? = some (.cells #[.int .i64 0, .int .i64 0, .slice none 0 0] 24 (0, 0)) := by
    rw [hV0]
    have := heap_alloc_new ((w.alloc (.cells #[.pointer (some ⟨rb, 0, none⟩)] 102)).alloc (.cells #[.int .i64 0, .int .i64 0, .slice none 0 0] 24)) (.cells #[.int .i64 0, .int .i64 0, .slice none 0 0] 24)
    simpa using this
  have hr0 : Rdr V0 rb s false := by rw [hV0]; exact ((HR.out.alloc _).alloc _).alloc _
  have hf0 : Fr (fun j => j ≠ rb) w V0 := by rw [hV0]; exact Fr.of_below (below3 _ _ _ _)
  have hc0 := poct_one rb s false V0 hr0 hs
  have H0 := (show Hid _ from And.intro hc0 (And.intro m0 (And.intro m1 (And.intro m2 hf0))))
  obtain ⟨x1, x2⟩ := box_cells m0
  clear m0 m1 m2 hr0 hf0 hV0 hc0
  go_wp2_with fail
  refine Calls.mono H0.out.1 ?_
  rintro e W1 ⟨b, s1, y1, rfl, hk1, hr1, g1⟩
  have f1 : Fr (fun j => j ≠ rb) V0 W1 := Fr.of_grown g1 (fun j _ hj => by simpa using hj)
  have m0 := f1.box H0.out.2.1 (by show _ ≠ _; omega)
  have m1 := f1.box H0.out.2.2.1 (by show _ ≠ _; omega)
  have m2 := f1.box H0.out.2.2.2.1 (by show _ ≠ _; omega)
  have hz1 := f1.size
  have hb := UInt8.toNat_lt b
  have HA : Hid (∀ V, V = W1.setCell ⟨w.heap.size + 2, 0, none⟩ (.int .i64 (b.toNat : Int)) → V.heap[w.heap.size]? = some (.cells #[.pointer (some ⟨rb, 0, none⟩)] 102 (0, 0)) ∧ V.heap[w.heap.size + 1]? = some (.cells #[.int .i64 0, .int .i64 0, .slice none 0 0] 24 (0, 0)) ∧ V.heap[w.heap.size + 2]? = some (.cells #[.int .i64 (b.toNat : Int), .int .i64 0, .slice none 0 0] 24 (0, 0)) ∧ Rdr V rb s1 y1 ∧ Fr (fun j => j ≠ rb) w V ∧ V0.heap.size ≤ V.heap.size) := by
    intro V hV
    subst hV
    have fs := fr1 W1 (w.heap.size + 2) 0 (.int .i64 (b.toNat : Int))
    exact ⟨fs.box m0 (by show _ ≠ _; omega), fs.box m1 (by show _ ≠ _; omega), rd_set m2 _, hr1.fr fs (by show rb ≠ _; omega), Fr.trans (Fr.trans H0.out.2.2.2.2 f1 (fun _ _ h => h)) fs (fun j h1 _ => by show j ≠ _; omega), Nat.le_trans hz1 fs.size⟩
  have H1 := (show Hid _ from hk1)
  clear x1 x2 m0 m1 hr1 g1 f1 hk1
  obtain ⟨x1, x2⟩ := box_cells m2
  clear m2
  go_upto_region 3 with (fail)
  obtain ⟨V1, hV1⟩ : ∃ V, V = W1.setCell ⟨w.heap.size + 1 + 1, 0, none⟩ (.int .i64 (b.toNat : Int)) := ⟨_, rfl⟩
  rw [← hV1]
  have HB := (show Hid _ from HA.out V1 hV1)
  have hzv1 := HB.out.2.2.2.2.2
  clear hV1 HA x1 x2
  have hc1 := poct_one rb s1 y1 V1 HB.out.2.2.2.1 (by have := H1.out.sz; omega)
  have H2 := (show Hid _ from hc1)
  obtain ⟨x1, x2⟩ := box_cells HB.out.1
  clear hc1
  go_wp2_with fail
  refine Calls.mono H2.out ?_
  rintro e W2 ⟨d, s2, y2, rfl, hk2, hr2, g2⟩
  have f2 : Fr (fun j => j ≠ rb) V1 W2 := Fr.of_grown g2 (fun j _ hj => by simpa using hj)
  have m0 := f2.box HB.out.1 (by show _ ≠ _; omega)
  have m1 := f2.box HB.out.2.1 (by show _ ≠ _; omega)
  have m2 := f2.box HB.out.2.2.1 (by show _ ≠ _; omega)
  have hz2 := f2.size
  have hd := UInt8.toNat_lt d
  have HA : Hid (∀ V, V = (W2.setCell ⟨w.heap.size + 2, 1, none⟩ (.int .i64 (d.toNat : Int))).alloc (.cells #[.int .i64 (b.toNat : Int), .int .i64 (d.toNat : Int)] 80) → CertBx V w rb W2.heap.size (b.toNat : Int) (d.toNat : Int) (.slice none 0 0) ∧ Rdr V rb s2 y2 ∧ Fr (fun j => j ≠ rb) w V) := by
    intro V hV
    subst hV
    have fs := fr1 W2 (w.heap.size + 2) 1 (.int .i64 (d.toNat : Int))
    have hsz : (W2.setCell ⟨w.heap.size + 2, 1, none⟩ (.int .i64 (d.toNat : Int))).heap.size = W2.heap.size := by simp [World.setCell]
    have fb := Fr.of_below (P := fun _ => True) (below1 (W2.setCell ⟨w.heap.size + 2, 1, none⟩ (.int .i64 (d.toNat : Int))) (.cells #[.int .i64 (b.toNat : Int), .int .i64 (d.toNat : Int)] 80))
    have hn := heap_alloc_new (W2.setCell ⟨w.heap.size + 2, 1, none⟩ (.int .i64 (d.toNat : Int))) (.cells #[.int .i64 (b.toNat : Int), .int .i64 (d.toNat : Int)] 80)
    rw [hsz] at hn
    refine ⟨⟨fb.box (fs.box m0 (by show _ ≠ _; omega)) trivial, fb.box (fs.box m1 (by show _ ≠ _; omega)) trivial, fb.box (rd_set m2 _) trivial, hn, by omega, ?_⟩, (hr2.fr fs (by show rb ≠ _; omega)).fr fb trivial, Fr.trans (Fr.trans (Fr.trans HB.out.2.2.2.2.1 f2 (fun _ _ h => h)) fs (fun j h1 _ => by show j ≠ _; omega)) fb (fun _ _ _ => trivial)⟩
    simp [hsz]
  have H3 := (show Hid _ from hk2)
  clear x1 x2 m0 m1 hr2 g2 f2 hk2 H2
  obtain ⟨x1, x2⟩ := box_cells m2
  clear m2
  go_upto_region 5 with (fail)
  obtain ⟨V2, hV2⟩ : ∃ V, V = (W2.setCell ⟨w.heap.size + 1 + 1, 1, none⟩ (.int .i64 (d.toNat : Int))).alloc (.cells #[.int .i64 (b.toNat : Int), .int .i64 (d.toNat : Int)] 80) := ⟨_, rfl⟩
  rw [← hV2]
  have HC := (show Hid _ from HA.out V2 hV2)
  clear hV2 HA HB x1 x2
  obtain ⟨x1, x2⟩ := box_cells HC.out.1.2.2.2.1
  have hsb : w.heap.size + 3 ≤ W2.heap.size := by omega
  obtain ⟨kb, hL⟩ : ∃ kb : Bool, known (b.toNat : Int) (d.toNat : Int) = kb := ⟨_, rfl⟩
  cases kb with
  | false =>
    go_wp2_with fail
    refine (isKnown_any _ _ _).mono ?_
    rw [hL]
    rintro e V3 ⟨rfl, hV3⟩
    have f3 : Fr (fun _ => True) V2 V3 := Fr.of_below (by rw [hV3]; exact below1 _ _)
    have hb3 := HC.out.1.fr f3 (fun _ _ => trivial)
    have hr3 := HC.out.2.1.fr f3 trivial
    have hf3 := Fr.trans HC.out.2.2 f3 (fun _ _ _ => trivial)
    have H4 := (show Hid _ from And.intro hr3 hf3)
    clear x1 x2
    obtain ⟨x1, x2⟩ := box_cells hb3.1
    obtain ⟨y3, y4⟩ := box_cells hb3.2.1
    obtain ⟨z1, z2⟩ := box_cells hr3
    clear hV3 f3 hb3 hr3 hf3
    have n1 : ¬ rb = w.heap.size := by omega
    have n2 : ¬ rb = w.heap.size + 1 := by omega
    have n3 : ¬ w.heap.size + 1 = rb := by omega
    go_wp2_with fail
    refine bodyPost_ret (v := .agg #[.int .i64 0, .int .i64 0, .slice none 0 0]) (by simp [results, Try.results40, go_sem, y3]) rfl ?_
    have fs := fr1 V3 rb 1 (.bool true)
    have fa := fr3 (V3.setCell ⟨rb, 1, none⟩ (.bool true)) (w.heap.size + 1) (.int .i64 0) (.int .i64 0) (.slice none 0 0)
    have hr : Rdr (V3.setCell ⟨rb, 1, none⟩ (.bool true)) rb s2 true := rd_set H4.out.1 _
    exact ⟨Or.inr ⟨cert_no H1.out H3.out hL, 0, 0, none, 0, 0, s2, rfl, hr.fr fa (by show rb ≠ _; omega)⟩, Fr.trans (Fr.trans H4.out.2 fs (fun _ _ h => h)) fa (fun j h1 h2 => by show j ≠ _; omega)⟩
  | true =>
    go_wp2_with fail
    refine (isKnown_any _ _ _).mono ?_
    rw [hL]
    rintro e V3 ⟨rfl, hV3⟩
    have f3 : Fr (fun _ => True) V2 V3 := Fr.of_below (by rw [hV3]; exact below1 _ _)
    have hb3 := HC.out.1.fr f3 (fun _ _ => trivial)
    have hr3 := HC.out.2.1.fr f3 trivial
    have hf3 := Fr.trans HC.out.2.2 f3 (fun _ _ _ => trivial)
    have H4 := (show Hid _ from And.intro hb3 (And.intro hr3 hf3))
    clear x1 x2 hV3 f3
    obtain ⟨x1, x2⟩ := box_cells hb3.1
    clear hb3 hr3 hf3
    go_upto_region 8 with (fail)
    have hyes := cert_yes H1.out H3.out hL
    obtain ⟨hy2, hs2⟩ := hyes
    subst hy2
    have hsz2 : s2.size ≤ 60000 := by have := H1.out.sz; have := H3.out.sz; omega
    have hc := fun (V : World) (hV : Rdr V rb s2 false) => psmall_one rb s2 false 60 V hV hsz2 ⟨by omega, by omega⟩
    have hcl := fun (V : World) (k : Nat) (s3 : ByteArray) (b3 : Bool) (hs3 : s3.size ≤ 60000) (hk : k ≤ 60) (hV : Rdr V rb s3 b3) (hI : InvE W2.heap.size w.heap.size rb (b.toNat : Int) (d.toNat : Int) V) => plistN_any (b.toNat : Int) (d.toNat : Int) w.heap.size W2.heap.size rb k s3 b3 V (by omega) (by omega) hV hI hs3 (by omega)
    have HP := (show Hid _ from And.intro hc (And.intro hcl (And.intro H4.out.1 (And.intro hs2 (And.intro H4.out.2.1 H4.out.2.2)))))
    clear hc hcl hs2 H1 H3 H4
    have hz4 : W2.heap.size < V3.heap.size := HP.out.2.2.1.2.2.2.2.2
    go_cut [] from 24 (fun wx => ∃ (la : Option Addr) (ll lc k : Nat) (s3 s4 : ByteArray) (b3 b4 : Bool), Hid (CertBx wx w rb W2.heap.size (b.toNat : Int) (d.toNat : Int) (.slice la ll lc) ∧ SmK s2 false 60 k s3 b3 ∧ LsN wx V3.heap.size k s3 b3 (b.toNat : Int) (d.toNat : Int) la ll lc s4 b4 ∧ Rdr wx rb s4 b4 ∧ Fr (fun j => j ≠ rb) w wx ∧ V3.heap.size ≤ wx.heap.size))
    case first =>
      go_region_law (first | (have _ := H4; go_simp; refine (HP.out.2.1 _ k s3 b3 hs3 hk8 (by exact H4.out.2.1) (by exact ⟨H4.out.2.2.1.2.2.2.1, H4.out.2.2.1.1⟩)).mono ?_; rintro e W5 ⟨h5, f5⟩; obtain ⟨la, ll, lc, s4, b4, rfl, hls, hr5⟩ := h5.one; have hnb := f5.box H4.out.2.2.1.2.2.1 (show _ ≠ _ by omega); obtain ⟨z1, z2⟩ := box_cells hnb; have H5 := (show Hid _ from And.intro hls (And.intro hr5 f5)); clear hls hr5 f5 h5 hnb) | (go_simp; refine (HP.out.1 _ (by exact HP.out.2.2.2.2.1)).mono ?_; rintro e W4 ⟨k, s3, b3, rfl, hk, hr4, g4⟩; have hf4 : Fr (fun j => j ≠ rb) V3 W4 := Fr.trans (Fr.of_below (P := fun j => j ≠ rb) (by repeat (first | with_reducible exact Below.refl _ _ | with_reducible refine below_drewN ?_ _ | with_reducible refine Below.drew ?_))) (Fr.of_grown g4 (fun j _ hj => by simpa using hj)) (fun _ _ hj => hj); have hb4 := HP.out.2.2.1.fr hf4 (fun j hj => by show j ≠ rb; omega); have hs3 : s3.size ≤ 60000 := (by have := hk.1; omega); have hk8 : k ≤ 60 := (by rcases hk.2 with ⟨_, _, q⟩ | ⟨_, _, q⟩ <;> omega); obtain ⟨y3, y4⟩ := box_cells hb4.1; have H4 := (show Hid _ from And.intro hk (And.intro hr4 (And.intro hb4 hf4))); clear hk hr4 hb4 hf4 g4))
      all_goals
        go_wp2_with fail
        go_meet
        case rel =>
          obtain ⟨k1, k2, k4⟩ := H5.out
          have hsz5 := k4.size
          have hfr := H4.out.2.2.2
          have hsz4 := hfr.size
          have f6 : Fr (fun j => j ≠ rb) W4 W5 := Fr.trans (Fr.of_below (P := fun j => j ≠ rb) (by repeat (first | with_reducible exact Below.refl _ _ | with_reducible refine below_drewN ?_ _ | with_reducible refine Below.drew ?_))) k4 (fun _ _ h => h)
          have hb5 := H4.out.2.2.1.fr f6 (fun j hj => by show j ≠ rb; omega)
          have hst := fr1 W5 (w.heap.size + 2) 2 (.slice la ll lc)
          refine ⟨la, ll, lc, k, s3, s4, b3, b4, ⟨hst.box hb5.1 (by show _ ≠ _; omega), hst.box hb5.2.1 (by show _ ≠ _; omega), rd_set hb5.2.2.1 _, hst.box hb5.2.2.2.1 (by show _ ≠ _; omega), hb5.2.2.2.2.1, Nat.lt_of_lt_of_le hb5.2.2.2.2.2 hst.size⟩, H4.out.1, k1.fr hst (fun j hj => by show j ≠ _; omega) hsz4, k2.fr hst (by show rb ≠ _; omega), ?_, Nat.le_trans (Nat.le_trans hsz4 hsz5) hst.size⟩
          exact Fr.trans (Fr.trans (Fr.trans HP.out.2.2.2.2.2 hfr (fun _ _ h => h)) f6 (fun j h1 h2 => h2)) hst (fun j h1 _ => by show j ≠ _; omega)
    case rest =>
      obtain ⟨la, ll, lc, k, s3, s4, b3, b4, HD⟩ := hcut
      rename World => W6
      clear x1 x2
      obtain ⟨x1, x2⟩ := box_cells HD.out.1.2.2.1
      obtain ⟨y3, y4⟩ := box_cells HD.out.1.2.1
      go_wp2_with fail
      refine bodyPost_ret (v := .agg #[.int .i64 (b.toNat : Int), .int .i64 (d.toNat : Int), .slice la ll lc]) (by simp [results, Try.results40, go_sem, y3]) rfl ?_
      have fa := fr3 W6 (w.heap.size + 1) (.int .i64 (b.toNat : Int)) (.int .i64 (d.toNat : Int)) (.slice la ll lc)
      refine ⟨cert_end HP.out.2.2.2.1 hL HD.out.2.1 (HD.out.2.2.1.fr fa (fun j hj => by show j ≠ _; omega) (Nat.le_refl _)) (by omega) (HD.out.2.2.2.1.fr fa (by show rb ≠ _; omega)), ?_⟩
      exact Fr.trans HD.out.2.2.2.2.1 fa (fun j h1 h2 => by show j ≠ _; omega)
end Go.Proofs.Ytmipbiligijcpaa
