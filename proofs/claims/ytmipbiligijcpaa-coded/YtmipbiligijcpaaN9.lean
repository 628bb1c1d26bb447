/- The program's reader: sets. -/
import Derived.Test.YtmipbiligijcpaaN8
import Derived.Test.YtmipbiligijcpaaY4
import Derived.Deep.CutRange
import Derived.Deep.RegionLaw
namespace Go.Proofs.Ytmipbiligijcpaa
set_option linter.unusedVariables false
set_option linter.unusedSimpArgs false
open Go.RowKit Go.Proofs Go.Maps

def N5.fv (x : N5) : Value := .slice x.fa x.n.facts.length x.fc
def N5.rv (x : N5) : Value := .slice x.ra x.n.ranks.length x.rc
def N5.vv (x : N5) : Value := .slice x.va x.n.vals.length x.vc
def n5V (x : N5) : Value := .agg #[.slice x.fa x.n.facts.length x.fc, .slice x.ra x.n.ranks.length x.rc, .bool x.n.reached, .int .i64 x.n.rank, .slice x.va x.n.vals.length x.vc]
/-- its lists are rows of their own, apart -/
structure NvOk (W : World) (B : Nat) (x : N5) : Prop where
  f : W.ownsRow B 3 1 x.fv x.n.facts.length (x.n.facts.map (Value.int .i64))
  r : W.ownsRow B 3 1 x.rv x.n.ranks.length (x.n.ranks.map (Value.int .i64))
  v : W.ownsRow B 62 6 x.vv x.n.vals.length (vRow x.n.vals)
  ap : x.fv.ownBlock = none ∨ x.fv.ownBlock ≠ x.rv.ownBlock
theorem NvOk.own {W : World} {B : Nat} {x : N5} (h : NvOk W B x) : NOwn W B x := by
  refine ⟨h.f, h.r, h.v, ?_, ?_, ?_⟩ <;> intro e
  · rcases h.f.2 with ⟨h1, _⟩ | ⟨g, c, cur, h1, _⟩ <;> simp [N5.fv, e] at h1; exact h1.2
  · rcases h.r.2 with ⟨h1, _⟩ | ⟨g, c, cur, h1, _⟩ <;> simp [N5.rv, e] at h1; exact h1.2
  · rcases h.v.2 with ⟨h1, _⟩ | ⟨g, c, cur, h1, _⟩ <;> simp [N5.vv, e] at h1; exact h1.2
/-- what reading a node answers -/
def NdR (w W' : World) (rb : Nat) (s : ByteArray) (res : Option (Nd × List UInt8)) (e : Ending) : Prop :=
  (∃ (x : N5) (s' : ByteArray), res = some (x.n, s'.data.toList) ∧ s'.size ≤ s.size ∧ e = .returned (n5V x) ∧ NvOk W' w.heap.size x ∧ Rdr W' rb s' false) ∨ (res = none ∧ ∃ (x : N5) (s' : ByteArray), e = .returned (n5V x) ∧ s'.size ≤ s.size ∧ Rdr W' rb s' true)
def stepR (_ : Unit) (l : List UInt8) : Option ((Int × Unit) × List UInt8) := match rsm 100000 l with
  | some (n, r) => some (((n : Int), ()), r)
  | none => none
def rset (g : Int) (l : List UInt8) : Option (Nd × List UInt8) := match rsm l.length l with
  | some (k, r) => (match rlist stepF k 0 r with
    | some ((fs, _), q) => if g = 1 then (match rlist stepR k () q with
        | some ((rs, _), q2) => some (⟨fs, rs, false, 0, []⟩, q2)
        | none => none) else some (⟨fs, [], false, 0, []⟩, q)
    | none => none)
  | none => none
/-- a list read, whether it is good or bad -/
def LsK {σ : Type} (W' : World) (B n : Nat) (s : ByteArray) (bad : Bool) (step : σ → List UInt8 → Option ((Int × σ) × List UInt8)) (st : σ) (la : Option Addr) (ll lc : Nat) (s' : ByteArray) (b' : Bool) : Prop :=
  s'.size ≤ s.size ∧ ((b' = false ∧ ll = n ∧ ∃ xs st', ifG bad (rlist step n st) s = some ((xs, st'), s'.data.toList) ∧ W'.ownsRow B 3 1 (.slice la n lc) n (xs.map (Value.int .i64))) ∨ (b' = true ∧ (bad = true ∨ ifG bad (rlist step n st) s = none) ∧ la = none ∧ ll = 0 ∧ lc = 0))
theorem ListI.one {σ : Type} {w W' : World} {rb n : Nat} {s : ByteArray} {bad : Bool} {step : σ → List UInt8 → Option ((Int × σ) × List UInt8)} {st : σ} {Inv : World → σ → Prop} {InvB : World → Prop} {e : Ending} (h : ListI w W' rb n s bad step st Inv InvB e) (hI : ∀ W st, Inv W st → InvB W) :
    ∃ la ll lc s' b', e = .returned (.slice la ll lc) ∧ LsK W' w.heap.size n s bad step st la ll lc s' b' ∧ Rdr W' rb s' b' ∧ InvB W' := by
  rcases h with ⟨xs, st', s', la, lc, h1, h2, rfl, h3, h4, h5, h6⟩ | ⟨h1, rfl, s', h2, h3, h4⟩
  · exact ⟨la, n, lc, s', false, rfl, ⟨h2, Or.inl ⟨rfl, rfl, xs, st', h1, h4⟩⟩, h5, hI _ _ h6⟩
  · exact ⟨none, 0, 0, s', true, rfl, ⟨h2, Or.inr ⟨rfl, h1, rfl, rfl, rfl⟩⟩, h3, h4⟩
theorem LsK.fr {σ : Type} {P : Nat → Prop} {w w' : World} {B n : Nat} {s : ByteArray} {bad : Bool} {step : σ → List UInt8 → Option ((Int × σ) × List UInt8)} {st : σ} {la : Option Addr} {ll lc : Nat} {s' : ByteArray} {b' : Bool} (h : LsK w B n s bad step st la ll lc s' b') (hf : Fr P w w') (hp : ∀ k, (Value.slice la ll lc).ownBlock = some k → P k) : LsK w' B n s bad step st la ll lc s' b' := by
  refine ⟨h.1, ?_⟩
  rcases h.2 with ⟨h1, h2, xs, st', h3, h4⟩ | h
  · subst h2
    exact Or.inl ⟨h1, rfl, xs, st', h3, hf.own h4 hp⟩
  · exact Or.inr h
theorem LsK.lt {σ : Type} {w : World} {B n : Nat} {s : ByteArray} {bad : Bool} {step : σ → List UInt8 → Option ((Int × σ) × List UInt8)} {st : σ} {la : Option Addr} {ll lc : Nat} {s' : ByteArray} {b' : Bool} (h : LsK w B n s bad step st la ll lc s' b') : ∀ k, (Value.slice la ll lc).ownBlock = some k → B ≤ k ∧ k < w.heap.size := by
  rcases h.2 with ⟨h1, h2, xs, st', h3, h4⟩ | ⟨_, _, h3, h4, h5⟩
  · subst h2
    exact h4.lt
  · intro k hk
    rw [h3] at hk
    simp [Value.ownBlock] at hk
/-- the node's box, while a set is read -/
def SetB (W : World) (w : World) (rb nb : Nat) (p g : Int) (fv rv : Value) : Prop := W.heap[w.heap.size]? = some (.cells #[.pointer (some ⟨rb, 0, none⟩)] 102 (0, 0)) ∧ W.heap[w.heap.size + 1]? = some (.cells #[.int .i64 p, .int .i64 g] 80 (0, 0)) ∧ W.heap[w.heap.size + 2]? = some (.cells #[.slice none 0 0, .slice none 0 0, .bool false, .int .i64 0, .slice none 0 0] 50 (0, 0)) ∧ W.heap[nb]? = some (.cells #[fv, rv, .bool false, .int .i64 0, .slice none 0 0] 50 (0, 0)) ∧ w.heap.size + 3 ≤ nb
theorem ifG_some {α : Type} {bad : Bool} {p : List UInt8 → Option (α × List UInt8)} {s : ByteArray} {a : α × List UInt8} (h : ifG bad p s = some a) : bad = false ∧ p s.data.toList = some a := by
  unfold ifG at h
  cases bad with
  | true => cases h
  | false => exact ⟨rfl, h⟩
theorem ifG_none {α : Type} {bad : Bool} {p : List UInt8 → Option (α × List UInt8)} {s : ByteArray} (h : ifG bad p s = none) : bad = true ∨ (bad = false ∧ p s.data.toList = none) := by
  unfold ifG at h
  cases bad with
  | true => exact Or.inl rfl
  | false => exact Or.inr ⟨rfl, h⟩
theorem ifG_of {α : Type} {bad : Bool} {p : List UInt8 → Option (α × List UInt8)} {s : ByteArray} (h : bad = true ∨ p s.data.toList = none) : ifG bad p s = none := by
  unfold ifG
  cases bad with
  | true => rfl
  | false =>
    rcases h with h | h
    · cases h
    · exact h
theorem str_len (s : ByteArray) : s.data.toList.length = s.size := rfl
theorem set_end1 {w W : World} {rb B B2 k fl fc rl rc : Nat} {g : Int} {s s1 s2 s3 : ByteArray} {bad b1 b2 b3 : Bool} {fa ra : Option Addr} (hg : g = 1) (h1 : SmK s bad (s.size : Int) k s1 b1) (h2 : LsK W B k s1 b1 stepF 0 fa fl fc s2 b2) (h3 : LsK W B2 k s2 b2 stepR () ra rl rc s3 b3) (hB : w.heap.size ≤ B) (hB2 : ∀ j, (Value.slice fa fl fc).ownBlock = some j → j < B2) (hBB : B ≤ B2) (hr : Rdr W rb s3 b3) :
    NdR w W rb s (ifG bad (rset g) s) (.returned (.agg #[.slice fa fl fc, .slice ra rl rc, .bool false, .int .i64 0, .slice none 0 0])) := by
  have hz : s3.size ≤ s.size := Nat.le_trans h3.1 (Nat.le_trans h2.1 h1.1)
  cases b3 with
  | true =>
    refine Or.inr ⟨?_, ⟨fa, fc, ra, rc, none, 0, ⟨List.replicate fl 0, List.replicate rl 0, false, 0, []⟩⟩, s3, by simp [n5V], hz, hr⟩
    apply ifG_of
    cases hb : bad with
    | true => exact Or.inl rfl
    | false =>
      right
      subst hb
      unfold rset
      rcases h1.2 with ⟨hb1, e1, _⟩ | ⟨hb1, e1, _⟩
      · rw [show rsm (s.data.toList.length : Int) s.data.toList = some (k, s1.data.toList) from e1]
        simp only
        subst hb1
        rcases h2.2 with ⟨hb2, _, fs, st2, e2, _⟩ | ⟨hb2, e2, _⟩
        · rw [show rlist stepF k 0 s1.data.toList = some ((fs, st2), s2.data.toList) from e2]
          simp only
          rw [if_pos hg]
          subst hb2
          rcases h3.2 with ⟨hb3, _⟩ | ⟨_, e3, _⟩
          · cases hb3
          · rcases e3 with e3 | e3
            · cases e3
            · rw [show rlist stepR k () s2.data.toList = none from e3]
        · rcases e2 with e2 | e2
          · cases e2
          · rw [show rlist stepF k 0 s1.data.toList = none from e2]
      · rw [show rsm (s.data.toList.length : Int) s.data.toList = none from e1]
  | false =>
    rcases h3.2 with ⟨_, hl3, rs, st3, e3, o3⟩ | ⟨hb3, _⟩
    · obtain ⟨hb2, e3'⟩ := ifG_some e3
      subst hb2
      rcases h2.2 with ⟨_, hl2, fs, st2, e2, o2⟩ | ⟨hb2, _⟩
      · obtain ⟨hb1, e2'⟩ := ifG_some e2
        subst hb1
        rcases h1.2 with ⟨_, e1, _⟩ | ⟨hb1, _⟩
        · obtain ⟨hb0, e1'⟩ := ifG_some e1
          subst hb0
          have l2 := rlist_len _ _ _ _ _ _ _ e2'
          have l3 := rlist_len _ _ _ _ _ _ _ e3'
          subst hl2 hl3
          refine Or.inl ⟨⟨fa, fc, ra, rc, none, 0, ⟨fs, rs, false, 0, []⟩⟩, s3, ?_, hz, by simp [n5V, l2, l3], ⟨?_, ?_, World.ownsRow_nil _ _ _ _, ?_⟩, hr⟩
          · unfold ifG rset
            simp only [Bool.false_eq_true, if_false]
            rw [show rsm (s.data.toList.length : Int) s.data.toList = some (rl, s1.data.toList) from e1']
            simp only
            rw [e2']
            simp only
            rw [if_pos hg, e3']
          · simpa [N5.fv, l2] using own_mono o2 hB
          · simpa [N5.rv, l3] using own_mono o3 (Nat.le_trans hB hBB)
          · simp only [N5.fv, N5.rv, l2, l3]
            cases hv : (Value.slice fa rl fc).ownBlock with
            | none => exact Or.inl rfl
            | some j =>
              refine Or.inr (fun e => ?_)
              have := hB2 j hv
              have := (o3.lt j e.symm).1
              omega
        · cases hb1
      · cases hb2
    · cases hb3
theorem set_end2 {w W : World} {rb B k fl fc : Nat} {g : Int} {s s1 s2 : ByteArray} {bad b1 b2 : Bool} {fa : Option Addr} (hg : ¬ g = 1) (h1 : SmK s bad (s.size : Int) k s1 b1) (h2 : LsK W B k s1 b1 stepF 0 fa fl fc s2 b2) (hB : w.heap.size ≤ B) (hr : Rdr W rb s2 b2) :
    NdR w W rb s (ifG bad (rset g) s) (.returned (.agg #[.slice fa fl fc, .slice none 0 0, .bool false, .int .i64 0, .slice none 0 0])) := by
  have hz : s2.size ≤ s.size := Nat.le_trans h2.1 h1.1
  cases b2 with
  | true =>
    refine Or.inr ⟨?_, ⟨fa, fc, none, 0, none, 0, ⟨List.replicate fl 0, [], false, 0, []⟩⟩, s2, by simp [n5V], hz, hr⟩
    apply ifG_of
    cases hb : bad with
    | true => exact Or.inl rfl
    | false =>
      right
      subst hb
      unfold rset
      rcases h1.2 with ⟨hb1, e1, _⟩ | ⟨hb1, e1, _⟩
      · rw [show rsm (s.data.toList.length : Int) s.data.toList = some (k, s1.data.toList) from e1]
        simp only
        subst hb1
        rcases h2.2 with ⟨hb2, _⟩ | ⟨hb2, e2, _⟩
        · cases hb2
        · rcases e2 with e2 | e2
          · cases e2
          · rw [show rlist stepF k 0 s1.data.toList = none from e2]
      · rw [show rsm (s.data.toList.length : Int) s.data.toList = none from e1]
  | false =>
    rcases h2.2 with ⟨_, hl2, fs, st2, e2, o2⟩ | ⟨hb2, _⟩
    · obtain ⟨hb1, e2'⟩ := ifG_some e2
      subst hb1
      rcases h1.2 with ⟨_, e1, _⟩ | ⟨hb1, _⟩
      · obtain ⟨hb0, e1'⟩ := ifG_some e1
        subst hb0
        have l2 := rlist_len _ _ _ _ _ _ _ e2'
        subst hl2
        refine Or.inl ⟨⟨fa, fc, none, 0, none, 0, ⟨fs, [], false, 0, []⟩⟩, s2, ?_, hz, by simp [n5V, l2], ⟨?_, World.ownsRow_nil _ _ _ _, World.ownsRow_nil _ _ _ _, ?_⟩, hr⟩
        · unfold ifG rset
          simp only [Bool.false_eq_true, if_false]
          rw [show rsm (s.data.toList.length : Int) s.data.toList = some (fl, s1.data.toList) from e1']
          simp only
          rw [e2']
          simp only
          rw [if_neg hg]
        · simpa [N5.fv, l2] using own_mono o2 hB
        · cases hv : (N5.fv ⟨fa, fc, none, 0, none, 0, ⟨fs, [], false, 0, []⟩⟩).ownBlock with
          | none => exact Or.inl rfl
          | some j => exact Or.inr (fun e => by simp [N5.rv, Value.ownBlock] at e)
      · cases hb1
    · cases hb2
theorem fr1 (W : World) (b o : Nat) (v : Value) : Fr (fun j => j ≠ b) W (W.setCell ⟨b, o, none⟩ v) := Fr.of_grown (grown_self W b o v) (fun j _ hj => by simpa using hj)
theorem fr5 (W : World) (b : Nat) (a0 a1 a2 a3 a4 : Value) : Fr (fun j => j ≠ b) W (((((W.setCell ⟨b, 0, none⟩ a0).setCell ⟨b, 1, none⟩ a1).setCell ⟨b, 2, none⟩ a2).setCell ⟨b, 3, none⟩ a3).setCell ⟨b, 4, none⟩ a4) :=
  Fr.trans (Fr.trans (Fr.trans (Fr.trans (fr1 _ _ _ _) (fr1 _ _ _ _) (fun _ _ h => h)) (fr1 _ _ _ _) (fun _ _ h => h)) (fr1 _ _ _ _) (fun _ _ h => h)) (fr1 _ _ _ _) (fun _ _ h => h)
theorem Rdr.fr {P : Nat → Prop} {w w' : World} {rb : Nat} {s : ByteArray} {bad : Bool} (h : Rdr w rb s bad) (hf : Fr P w w') (hp : P rb) : Rdr w' rb s bad := (hf.block rb h.lt hp).trans h
theorem Fr.box {P : Nat → Prop} {w w' : World} {k : Nat} {cs : Array Value} {t : TypeId} (hf : Fr P w w') (h : w.heap[k]? = some (.cells cs t (0, 0))) (hp : P k) : w'.heap[k]? = some (.cells cs t (0, 0)) := (hf.block k (Array.getElem?_eq_some_iff.1 h).1 hp).trans h
set_option maxHeartbeats 1000000 in
set_option maxRecDepth 100000 in
theorem prset_any (rb : Nat) (p g : Int) (s : ByteArray) (bad : Bool) (w : World) (h : Rdr w rb s bad) (hs : s.size ≤ 60000) :
    Calls Try.prog 72 #[.pointer (some ⟨rb, 0, none⟩), .agg #[.int .i64 p, .int .i64 g]] w fun e W' => NdR w W' rb s (ifG bad (rset g) s) e ∧ Fr (fun j => j ≠ rb) w W' := by
  have hlt := h.lt
  obtain ⟨x1, x2⟩ := box_cells h
  have hc := fun (V : World) (hV : Rdr V rb s bad) => psmall_one rb s bad (s.size : Int) V hV hs ⟨by omega, by omega⟩
  have HR := (show Hid _ from And.intro hc h)
  clear h hc
  go_enter Try.func72, Try.ntmps72
  go_upto_region 1 with (fail)
  obtain ⟨V0, hV0⟩ : ∃ V, V = (((w.alloc (.cells #[.pointer (some ⟨rb, 0, none⟩)] 102)).alloc (.cells #[.int .i64 p, .int .i64 g] 80)).alloc (.cells #[.slice none 0 0, .slice none 0 0, .bool false, .int .i64 0, .slice none 0 0] 50)) := ⟨_, rfl⟩
  rw [← hV0]
  have hz0 : V0.heap.size = w.heap.size + 3 := by rw [hV0]; simp
  have m0 : V0.heap[w.heap.size]? = some (.cells #[.pointer (some ⟨rb, 0, none⟩)] 102 (0, 0)) := by
    rw [hV0, Below.heap_alloc _ _ _ (by simp; omega), Below.heap_alloc _ _ _ (by simp), heap_alloc_new]
  have m1 : V0.heap[w.heap.size + 1]? = some (.cells #[.int .i64 p, .int .i64 g] 80 (0, 0)) := by
    rw [hV0, Below.heap_alloc _ _ _ (by simp)]
    exact (alloc2 w _ _).2
  have m2 : V0.heap[w.heap.size + 2]? = some (.cells #[.slice none 0 0, .slice none 0 0, .bool false, .int .i64 0, .slice none 0 0] 50 (0, 0)) := by
    rw [hV0]
    have := heap_alloc_new ((w.alloc (.cells #[.pointer (some ⟨rb, 0, none⟩)] 102)).alloc (.cells #[.int .i64 p, .int .i64 g] 80)) (.cells #[.slice none 0 0, .slice none 0 0, .bool false, .int .i64 0, .slice none 0 0] 50)
    simpa using this
  have hr0 : Rdr V0 rb s bad := by rw [hV0]; exact ((HR.out.2.alloc _).alloc _).alloc _
  have hf0 : Below w.heap.size w V0 := by rw [hV0]; exact below3 _ _ _ _
  clear x1 x2
  obtain ⟨x1, x2⟩ := box_cells hr0
  obtain ⟨y1, y2⟩ := box_cells m0
  have H0 := (show Hid _ from And.intro m0 (And.intro m1 (And.intro m2 (And.intro hr0 hf0))))
  clear m0 m1 m2 hr0 hf0 hV0
  go_cut [5] from 8 (fun cv wx => ∃ (k : Nat) (s1 : ByteArray) (b1 : Bool), cv = .int .i64 (k : Int) ∧ k ≤ 60000 ∧ Hid (SmK s bad (s.size : Int) k s1 b1 ∧ Rdr wx rb s1 b1 ∧ Fr (fun j => j ≠ rb) V0 wx))
  case first =>
    go_region_law (go_simp; refine (HR.out.1 _ (by exact H0.out.2.2.2.1)).mono ?_; rintro e W1 ⟨k, s1, b1, rfl, hk, hr, g⟩)
    all_goals
      go_wp2_with fail
      go_meet
      case rel => exact ⟨k, s1, b1, rfl, (by rcases hk.2 with ⟨_, _, q⟩ | ⟨_, _, q⟩ <;> omega), hk, hr, Fr.trans (Fr.of_below (P := fun j => j ≠ rb) (by repeat (first | with_reducible exact Below.refl _ _ | with_reducible refine below_drewN ?_ _ | with_reducible refine Below.drew ?_))) (Fr.of_grown g (fun j _ hj => by simpa using hj)) (fun _ _ hj => hj)⟩
  case rest =>
    obtain ⟨k, s1, b1, rfl, hk6, HC⟩ := hcut
    rename World => W1
    clear x1 x2 y1 y2
    have hz1 : w.heap.size + 3 ≤ W1.heap.size := by have := HC.out.2.2.size; omega
    have m0 : W1.heap[w.heap.size]? = _ := (HC.out.2.2.block _ (by omega) (by omega)).trans H0.out.1
    have m1 : W1.heap[w.heap.size + 1]? = _ := (HC.out.2.2.block _ (by omega) (by omega)).trans H0.out.2.1
    have m2 : W1.heap[w.heap.size + 2]? = _ := (HC.out.2.2.block _ (by omega) (by omega)).trans H0.out.2.2.1
    have H1 := (show Hid _ from And.intro m0 (And.intro m1 m2))
    clear m0 m1 m2
    go_upto_region 4 with (fail)
    obtain ⟨V1, hV1⟩ : ∃ V, V = ((W1.alloc (.cells #[.slice none 0 0, .slice none 0 0, .bool false, .int .i64 0, .slice none 0 0] 50)).alloc (.cells #[.int .i64 0] 3)) := ⟨_, rfl⟩
    rw [← hV1]
    have hz2 : V1.heap.size = W1.heap.size + 2 := by rw [hV1]; simp
    have hb1 : Below W1.heap.size W1 V1 := by rw [hV1]; exact below2 _ _ _
    obtain ⟨n0, n1⟩ := alloc2 W1 (.cells #[.slice none 0 0, .slice none 0 0, .bool false, .int .i64 0, .slice none 0 0] 50) (.cells #[.int .i64 0] 3)
    rw [← hV1] at n0 n1
    have hr1 : Rdr V1 rb s1 b1 := by rw [hV1]; exact (HC.out.2.1.alloc _).alloc _
    have hx1 : InvX w.heap.size rb V1 := (hb1.block _ (by omega)).trans H1.out.1
    have hset : SetB V1 w rb W1.heap.size p g (.slice none 0 0) (.slice none 0 0) := ⟨hx1, (hb1.block _ (by omega)).trans H1.out.2.1, (hb1.block _ (by omega)).trans H1.out.2.2, n0, hz1⟩
    have hfr : Fr (fun j => j ≠ rb) w V1 := Fr.trans (Fr.trans (Fr.of_below H0.out.2.2.2.2) HC.out.2.2 (fun _ _ h => h)) (Fr.of_below hb1) (fun _ _ h => h)
    have hcall := fun (V : World) (hV : Rdr V rb s1 b1) (hI : InvF (W1.heap.size + 1) w.heap.size rb V 0) (hsz : ∀ j, (j = W1.heap.size + 1 ∨ j = w.heap.size) → j < V.heap.size) => plistS_any stepF (InvF (W1.heap.size + 1) w.heap.size rb) (InvG (W1.heap.size + 1) w.heap.size rb) (fun j => j = W1.heap.size + 1 ∨ j = w.heap.size) (W1.heap.size + 1) w.heap.size rb k s1 b1 0 V
      (fun W st s bad h1 h2 h3 => pset1_any _ _ _ (by omega) (by omega) (by omega) W st s bad h1 h2 h3)
      (fun W W' st h1 h2 => ⟨(h2 _ (Or.inl rfl)).trans h1.1, (h2 _ (Or.inr rfl)).trans h1.2.1, h1.2.2⟩)
      (fun W W' h1 h2 => ⟨⟨_, (h2 _ (Or.inl rfl)).trans h1.1.choose_spec⟩, (h2 _ (Or.inr rfl)).trans h1.2⟩)
      (fun W st h1 => ⟨⟨_, h1.1⟩, h1.2.1⟩) hsz hV hI (by have := HC.out.1.1; omega) (by omega)
    have HP := (show Hid _ from And.intro hcall (And.intro n1 (And.intro hr1 (And.intro hset hfr))))
    obtain ⟨y1, y2⟩ := box_cells hx1
    clear hcall hset hr1 hfr hx1 hV1 n0 n1 hb1
    go_wp2_with fail
    refine (HP.out.1 _ HP.out.2.2.1 ⟨HP.out.2.1, HP.out.2.2.2.1.1, by omega⟩ (by intro j hj; rcases hj with rfl | rfl <;> omega)).mono ?_
    rintro e W2 ⟨h2, f2⟩
    obtain ⟨fa, fl, fc, s2, b2, rfl, hls, hr2, hi2⟩ := h2.one (fun W st h1 => ⟨⟨_, h1.1⟩, h1.2.1⟩)
    have hnb := (f2.block W1.heap.size (by omega) ⟨by omega, by omega⟩).trans HP.out.2.2.2.1.2.2.2.1
    obtain ⟨z1, z2⟩ := box_cells hnb
    have H2 : Hid (∀ (v : Value), SetB (W2.setCell ⟨W1.heap.size, 0, none⟩ v) w rb W1.heap.size p g v (.slice none 0 0) ∧ LsK (W2.setCell ⟨W1.heap.size, 0, none⟩ v) V1.heap.size k s1 b1 stepF 0 fa fl fc s2 b2 ∧ Rdr (W2.setCell ⟨W1.heap.size, 0, none⟩ v) rb s2 b2 ∧ Fr (fun j => j ≠ rb) w (W2.setCell ⟨W1.heap.size, 0, none⟩ v) ∧ V1.heap.size ≤ (W2.setCell ⟨W1.heap.size, 0, none⟩ v).heap.size) := by
      intro v
      have hg := grown_self W2 W1.heap.size 0 v
      have hz3 := f2.size
      have hk1 := (f2.block (w.heap.size + 1) (by omega) ⟨by omega, by omega⟩).trans HP.out.2.2.2.1.2.1
      have hk2 := (f2.block (w.heap.size + 2) (by omega) ⟨by omega, by omega⟩).trans HP.out.2.2.2.1.2.2.1
      refine ⟨⟨(hg.block _ (by omega) (by simp; omega)).trans hi2.2, (hg.block _ (by omega) (by simp; omega)).trans hk1, (hg.block _ (by omega) (by simp; omega)).trans hk2, rd_set hnb v, hz1⟩, hls.fr (Fr.of_grown (P := fun j => V1.heap.size ≤ j) hg (fun j _ hj => by simp; omega)) (fun j hj => (hls.lt j hj).1), hr2.grown hg (by simp; omega), ?_, by have := hg.size; omega⟩
      exact Fr.trans (Fr.trans HP.out.2.2.2.2 (f2.mono (fun j _ (hj : j ≠ rb ∧ j < w.heap.size) => ⟨hj.1, by omega⟩)) (fun j h1 h2 => ⟨h2, h1⟩)) (Fr.of_grown (P := fun j => j < w.heap.size) hg (fun j _ hj => by simp; omega)) (fun j h1 _ => h1)
    clear hnb hls hr2 hi2 f2 h2
    go_upto_region 5 with (fail)
    obtain ⟨V2, hV2⟩ : ∃ V, V = W2.setCell ⟨W1.heap.size, 0, none⟩ (.slice fa fl fc) := ⟨_, rfl⟩
    rw [← hV2]
    have H3 := (show Hid _ from H2.out (.slice fa fl fc))
    rw [← hV2] at H3
    clear hV2 H2 z1 z2 y1 y2
    have e1 := H3.out.1.1
    have e2 := H3.out.1.2.1
    have e4 := H3.out.1.2.2.2.1
    obtain ⟨y1, y2⟩ := box_cells e2
    by_cases hg1 : g = 1
    · have hL : decide (g = 1) = true := by rw [decide_eq_true_eq]; exact hg1
      have HG := (show Hid _ from hg1)
      clear hg1
      go_wp2_with fail
      refine (isLeast_any _ _ _).mono ?_
      rw [hL]
      rintro e V3 ⟨rfl, hV3⟩
      have hb3 : Below V2.heap.size V2 V3 := by rw [hV3]; exact below1 _ _
      have hf3 : Fr (fun _ => True) V2 V3 := Fr.of_below hb3
      have d0 := hf3.box e1 trivial
      have d2 := hf3.box H3.out.1.2.2.1 trivial
      have d4 := hf3.box e4 trivial
      have hr3 := H3.out.2.2.1.fr hf3 trivial
      have hls3 := H3.out.2.1.fr hf3 (fun _ _ => trivial)
      have hfw := Fr.trans H3.out.2.2.2.1 hf3 (fun _ _ _ => trivial)
      have hz3 : V1.heap.size ≤ V3.heap.size := Nat.le_trans H3.out.2.2.2.2 hf3.size
      have hc3 := plistR_any stepR (fun _ _ => True) (fun _ => True) (fun _ => False) rb k s2 b2 () V3
        (fun W st s bad _ h2 h3 => by
          refine (prank_any rb s bad W h2 h3).mono ?_
          rintro e W' ⟨q1, q2⟩
          refine ⟨?_, Fr.of_grown q2 (fun j _ hj => by simpa using hj.1)⟩
          rcases q1 with ⟨n, s', r1, r2, rfl, r3⟩ | ⟨r1, rfl, s', r2, r3⟩
          · obtain ⟨rb0, r1'⟩ := ifG_some r1
            subst rb0
            exact Or.inl ⟨_, (), s', by unfold ifG stepR; simp only [Bool.false_eq_true, if_false]; rw [r1'], r2, rfl, r3, trivial⟩
          · refine Or.inr ⟨?_, _, s', ⟨_, rfl⟩, rfl, r2, r3, trivial⟩
            apply ifG_of
            rcases ifG_none r1 with r | ⟨_, r⟩
            · exact Or.inl r
            · right
              unfold stepR
              rw [r])
        (fun _ _ _ _ _ => trivial) (fun _ _ _ _ => trivial) (fun _ _ _ => trivial) (fun _ h => h.elim) hr3 trivial (by have := HC.out.1.1; have := H3.out.2.1.1; omega) (by omega)
      have H4 := (show Hid _ from And.intro hc3 (And.intro d2 (And.intro d4 (And.intro hls3 (And.intro hfw hls3.lt)))))
      clear y1 y2 e1 e2 e4
      obtain ⟨y1, y2⟩ := box_cells d0
      clear hc3 d0 d2 d4 hr3 hls3 hfw hf3 hb3 hV3
      go_wp2_with fail
      refine Calls.mono H4.out.1 ?_
      rintro e W4 ⟨h4, f4⟩
      obtain ⟨ra, rl, rc, s3, b3, rfl, hl4, hr4, _⟩ := h4.one (fun _ _ _ => trivial)
      have c2 := f4.box H4.out.2.1 (show _ ∧ _ from ⟨by omega, fun h => h⟩)
      have c4 := f4.box H4.out.2.2.1 (show _ ∧ _ from ⟨by omega, fun h => h⟩)
      have hz4 := f4.size
      have H5 := (show Hid _ from And.intro c2 (And.intro c4 (And.intro hl4 (And.intro hr4 f4))))
      clear y1 y2 h4 hl4 hr4 f4
      obtain ⟨y1, y2⟩ := box_cells c2
      obtain ⟨z1, z2⟩ := box_cells c4
      have n1 : w.heap.size + 2 ≠ W1.heap.size := by omega
      have n2 : W1.heap.size ≠ w.heap.size + 2 := by omega
      clear c2 c4
      go_wp2_with fail
      refine bodyPost_ret (v := .agg #[.slice fa fl fc, .slice ra rl rc, .bool false, .int .i64 0, .slice none 0 0]) (by simp [results, Try.results72, go_sem, y1]) rfl ?_
      have fa1 := fr1 W4 W1.heap.size 1 (.slice ra rl rc)
      have fa2 := fr5 (W4.setCell ⟨W1.heap.size, 1, none⟩ (.slice ra rl rc)) (w.heap.size + 1 + 1) (.slice fa fl fc) (.slice ra rl rc) (.bool false) (.int .i64 0) (.slice none 0 0)
      have fa3 := Fr.trans (P := fun j => j ≠ W1.heap.size ∧ j ≠ w.heap.size + 1 + 1) (fa1.mono (fun j _ h => h.1)) fa2 (fun j _ h => h.2)
      have fa4 := Fr.trans (P := fun j => j ≠ rb ∧ j ≠ W1.heap.size ∧ j ≠ w.heap.size + 1 + 1) (H5.out.2.2.2.2.mono (fun j _ h => ⟨h.1, fun h => h⟩)) fa3 (fun j _ h => h.2)
      refine ⟨set_end1 HG.out HC.out.1 (H4.out.2.2.2.1.fr fa4 (fun j hj => by have := (H4.out.2.2.2.2.2 j hj).1; exact ⟨by omega, by omega, by omega⟩)) (H5.out.2.2.1.fr fa3 (fun j hj => by have := (H5.out.2.2.1.lt j hj).1; exact ⟨by omega, by omega⟩)) (by omega) (fun j hj => (H4.out.2.2.2.2.2 j hj).2) hz3 (H5.out.2.2.2.1.fr fa3 ⟨by omega, by omega⟩), ?_⟩
      exact Fr.trans H4.out.2.2.2.2.1 fa4 (fun j h1 h2 => ⟨h2, by omega, by omega⟩)
    · have hL : decide (g = 1) = false := by rw [decide_eq_false_iff_not]; exact hg1
      have HG := (show Hid _ from hg1)
      clear hg1
      go_wp2_with fail
      refine (isLeast_any _ _ _).mono ?_
      rw [hL]
      rintro e V3 ⟨rfl, hV3⟩
      have hb3 : Below V2.heap.size V2 V3 := by rw [hV3]; exact below1 _ _
      have hf3 : Fr (fun _ => True) V2 V3 := Fr.of_below hb3
      have d2 := hf3.box H3.out.1.2.2.1 trivial
      have d4 := hf3.box e4 trivial
      have hr3 := H3.out.2.2.1.fr hf3 trivial
      have hls3 := H3.out.2.1.fr hf3 (fun _ _ => trivial)
      have hfw := Fr.trans H3.out.2.2.2.1 hf3 (fun _ _ _ => trivial)
      have hz3 : V1.heap.size ≤ V3.heap.size := Nat.le_trans H3.out.2.2.2.2 hf3.size
      have H4 := (show Hid _ from And.intro hls3 (And.intro hr3 hfw))
      clear y1 y2 e1 e2 e4
      obtain ⟨y1, y2⟩ := box_cells d2
      obtain ⟨z1, z2⟩ := box_cells d4
      clear d2 d4 hr3 hls3 hfw hf3 hb3 hV3
      go_wp2_with fail
      refine bodyPost_ret (v := .agg #[.slice fa fl fc, .slice none 0 0, .bool false, .int .i64 0, .slice none 0 0]) (by simp [results, Try.results72, go_sem, y1]) rfl ?_
      have fa2 := fr5 V3 (w.heap.size + 1 + 1) (.slice fa fl fc) (.slice none 0 0) (.bool false) (.int .i64 0) (.slice none 0 0)
      refine ⟨set_end2 HG.out HC.out.1 (H4.out.1.fr fa2 (fun j hj => by have := (H4.out.1.lt j hj).1; show j ≠ _; omega)) (by omega) (H4.out.2.1.fr fa2 (by show rb ≠ _; omega)), ?_⟩
      exact Fr.trans H4.out.2.2 fa2 (fun j h1 h2 => by show j ≠ _; omega)
end Go.Proofs.Ytmipbiligijcpaa
