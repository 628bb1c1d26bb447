/- The document's reader: values. -/
import Derived.Test.YtmipbiligijcpaaF2
import Derived.Test.YtmipbiligijcpaaN6
namespace Go.Proofs.Ytmipbiligijcpaa
set_option linter.unusedVariables false
set_option linter.unusedSimpArgs false
open Go.RowKit Go.Proofs Go.Maps

def rbind {α β : Type} (p : List UInt8 → Option (α × List UInt8)) (f : α → List UInt8 → Option (β × List UInt8)) (l : List UInt8) : Option (β × List UInt8) := match p l with
  | some (x, r) => f x r
  | none => none
def rret {β : Type} (y : β) (l : List UInt8) : Option (β × List UInt8) := some (y, l)
def rfail {β : Type} (_ : List UInt8) : Option (β × List UInt8) := none
theorem DrK.bind {α β : Type} {s : ByteArray} {a a1 a2 : Nat} {b b1 b2 : Bool} {p : List UInt8 → Option (α × List UInt8)} {f : α → List UInt8 → Option (β × List UInt8)} {x : α} {y : β} (h1 : DrK s a b p x a1 b1) (h2 : DrK s a1 b1 (f x) y a2 b2) : DrK s a b (rbind p f) y a2 b2 := by
  refine ⟨Nat.le_trans h1.le h2.le, h2.sz, ?_⟩
  unfold rbind
  rcases h2.how with ⟨e1, e2, e3⟩ | ⟨e1, e2⟩
  · rcases h1.how with ⟨_, f2, f3⟩ | ⟨f1, _⟩
    · exact Or.inl ⟨e1, f2, by rw [f3]; exact e3⟩
    · rw [e2] at f1; cases f1
  · refine Or.inr ⟨e1, ?_⟩
    rcases h1.how with ⟨f1, f2, f3⟩ | ⟨f1, f2⟩
    · rcases e2 with e2 | e2
      · rw [f1] at e2; cases e2
      · right; rw [f3]; exact e2
    · rcases f2 with f2 | f2
      · exact Or.inl f2
      · right; rw [f2]
theorem DrK.ret {β : Type} {s : ByteArray} {a : Nat} (b : Bool) (y : β) (h : a ≤ s.size) : DrK s a b (rret y) y a b := by
  refine ⟨Nat.le_refl _, h, ?_⟩
  cases b with
  | false => exact Or.inl ⟨rfl, rfl, rfl⟩
  | true => exact Or.inr ⟨rfl, Or.inl rfl⟩
theorem DrK.fail {β : Type} {s : ByteArray} {a a' : Nat} (b : Bool) (y : β) (hle : a ≤ a') (h : a' ≤ s.size) : DrK s a b rfail y a' true := ⟨hle, h, Or.inr ⟨rfl, Or.inr rfl⟩⟩
/-- what is bad stays bad -/
theorem DrK.bad {β : Type} {s : ByteArray} {a a' : Nat} (p : List UInt8 → Option (β × List UInt8)) (y : β) (hle : a ≤ a') (h : a' ≤ s.size) : DrK s a true p y a' true := ⟨hle, h, Or.inr ⟨rfl, Or.inl rfl⟩⟩
def vl2 : Vl := ⟨2, 0, 0, false, 0, 0⟩
def dval (p g : Int) : List UInt8 → Option (Vl × List UInt8) :=
  if p = 6 then rbind rnum (fun lo => rbind rc (fun n => if lo + (n : Int) ≤ 9223372036854775807 then rret ⟨3, lo, lo + (n : Int), false, 0, 0⟩ else rfail))
  else rbind roct (fun b => if b.toNat = 1 then rbind rnum (fun x => rret ⟨1, x, 0, false, 0, 0⟩)
    else if b.toNat = 2 then (if g = 1 then rbind (rsm ((1 : Nat) : Int)) (fun y => if y = 1 then rbind rnum (fun x => rbind (rsm ((100000 : Nat) : Int)) (fun k => rret ⟨2, 0, 0, true, x, (k : Int)⟩)) else rret vl2) else rret vl2)
    else rfail)
/-- the boxes while a value is read -/
def VBx (W w : World) (p g : Int) (na : Option Addr) (nl nc : Nat) (v : Vl) : Prop := W.heap[w.heap.size]? = some (.cells #[.int .i64 p, .int .i64 g, .slice na nl nc] 24 (0, 0)) ∧ W.heap[w.heap.size + 1]? = some (.cells #[.int .i64 0, .int .i64 0, .int .i64 0, .bool false, .int .i64 0, .int .i64 0] 62 (0, 0)) ∧ W.heap[w.heap.size + 2]? = some (.cells #[.int .i64 v.kind, .int .i64 v.lo, .int .i64 v.hi, .bool v.early, .int .i64 v.first, .int .i64 v.rank] 62 (0, 0))
theorem VBx.grown {W W' w : World} {p g : Int} {na : Option Addr} {nl nc rb : Nat} {v : Vl} (h : VBx W w p g na nl nc v) (hg : W.grownBy W' (some rb)) (hr : rb < w.heap.size) : VBx W' w p g na nl nc v :=
  ⟨box_kept h.1 hg (by omega), box_kept h.2.1 hg (by omega), box_kept h.2.2 hg (by omega)⟩
theorem VBx.set {W w : World} {p g : Int} {na : Option Addr} {nl nc : Nat} {v v' : Vl} (h : VBx W w p g na nl nc v) (o : Nat) (x : Value) (he : #[Value.int .i64 v.kind, .int .i64 v.lo, .int .i64 v.hi, .bool v.early, .int .i64 v.first, .int .i64 v.rank].setIfInBounds o x = #[.int .i64 v'.kind, .int .i64 v'.lo, .int .i64 v'.hi, .bool v'.early, .int .i64 v'.first, .int .i64 v'.rank]) : VBx (W.setCell ⟨w.heap.size + 2, o, none⟩ x) w p g na nl nc v' := by
  refine ⟨(Below.heap_setCell _ _ _ _ (by show w.heap.size ≠ w.heap.size + 2; omega)).trans h.1, (Below.heap_setCell _ _ _ _ (by show w.heap.size + 1 ≠ w.heap.size + 2; omega)).trans h.2.1, ?_⟩
  rw [drd_set h.2.2, he]
theorem DRd.far {w : World} {rb a : Nat} {s : ByteArray} {bad : Bool} (h : DRd w rb s a bad) {b o : Nat} (hb : rb ≠ b) (v : Value) : DRd (w.setCell ⟨b, o, none⟩ v) rb s a bad := (Below.heap_setCell _ _ _ _ hb).trans h
/-- all that is known while a value is read -/
def VSt (W w : World) (p g : Int) (na : Option Addr) (nl nc rb : Nat) (s : ByteArray) (v : Vl) (a : Nat) (b : Bool) : Prop := VBx W w p g na nl nc v ∧ DRd W rb s a b ∧ w.grownBy W (some rb)
theorem VSt.call {W W' w : World} {p g : Int} {na : Option Addr} {nl nc rb : Nat} {s : ByteArray} {v : Vl} {a a' : Nat} {b b' : Bool} (h : VSt W w p g na nl nc rb s v a b) (hr : rb < w.heap.size) (hd : DRd W' rb s a' b') (hg : W.grownBy W' (some rb)) : VSt W' w p g na nl nc rb s v a' b' := ⟨h.1.grown hg hr, hd, h.2.2.trans hg⟩
theorem VSt.set {W w : World} {p g : Int} {na : Option Addr} {nl nc rb : Nat} {s : ByteArray} {v v' : Vl} {a : Nat} {b : Bool} (h : VSt W w p g na nl nc rb s v a b) (hr : rb < w.heap.size) (o : Nat) (x : Value) (he : #[Value.int .i64 v.kind, .int .i64 v.lo, .int .i64 v.hi, .bool v.early, .int .i64 v.first, .int .i64 v.rank].setIfInBounds o x = #[.int .i64 v'.kind, .int .i64 v'.lo, .int .i64 v'.hi, .bool v'.early, .int .i64 v'.first, .int .i64 v'.rank]) : VSt (W.setCell ⟨w.heap.size + 2, o, none⟩ x) w p g na nl nc rb s v' a b := ⟨h.1.set o x he, h.2.1.far (by omega) x, grown_far h.2.2 (by omega) x⟩
theorem VSt.bad {W w : World} {p g : Int} {na : Option Addr} {nl nc rb : Nat} {s : ByteArray} {v : Vl} {a : Nat} {b : Bool} (h : VSt W w p g na nl nc rb s v a b) (hr : rb < w.heap.size) : VSt (W.setCell ⟨rb, 2, none⟩ (.bool true)) w p g na nl nc rb s v a true :=
  h.call hr (drd_set h.2.1 _) (grown_self _ _ _ _)
theorem dstore6 {w W : World} {rb b a : Nat} {s : ByteArray} {bad : Bool} (g : w.grownBy W (some rb)) (h : DRd W rb s a bad) (hb : w.heap.size ≤ b) (hne : rb ≠ b) (a0 a1 a2 a3 a4 a5 : Value) : DRd ((((((W.setCell ⟨b, 0, none⟩ a0).setCell ⟨b, 1, none⟩ a1).setCell ⟨b, 2, none⟩ a2).setCell ⟨b, 3, none⟩ a3).setCell ⟨b, 4, none⟩ a4).setCell ⟨b, 5, none⟩ a5) rb s a bad ∧ w.grownBy ((((((W.setCell ⟨b, 0, none⟩ a0).setCell ⟨b, 1, none⟩ a1).setCell ⟨b, 2, none⟩ a2).setCell ⟨b, 3, none⟩ a3).setCell ⟨b, 4, none⟩ a4).setCell ⟨b, 5, none⟩ a5) (some rb) :=
  ⟨(((((h.far hne _).far hne _).far hne _).far hne _).far hne _).far hne _, grown_far (grown_far (grown_far (grown_far (grown_far (grown_far g hb _) hb _) hb _) hb _) hb _) hb _⟩
theorem DrK.stays {α : Type} {s : ByteArray} {a a' : Nat} {p : List UInt8 → Option (α × List UInt8)} {x : α} {b' : Bool} (h : DrK s a true p x a' b') : b' = true := by
  rcases h.how with ⟨_, h, _⟩ | ⟨h, _⟩
  · cases h
  · exact h
theorem i64_k (x : Int) (h : 0 ≤ x) (h2 : x ≤ 1000) : I64 x := ⟨by omega, by omega⟩
theorem hi_in (lo : Int) (n : Nat) : I64 (hiOf lo n) := ⟨by unfold hiOf wrap64; omega, by unfold hiOf wrap64; omega⟩
theorem hi_eq {lo : Int} {n : Nat} (hl : I64 lo) (h : lo + (n : Int) ≤ 9223372036854775807) : hiOf lo n = lo + (n : Int) := by
  obtain ⟨h1, h2⟩ := hl
  simp only [hiOf, wrap64, IntKind.wrap, IntKind.bits, IntKind.signed]
  simp
  omega
theorem room_eq {lo : Int} (hl : I64 lo) : IntKind.u64.wrap (9223372036854775807 - IntKind.u64.wrap lo) = 9223372036854775807 - lo := by
  obtain ⟨h1, h2⟩ := hl
  simp only [IntKind.wrap, IntKind.bits, IntKind.signed]
  simp
  omega
set_option maxHeartbeats 4000000 in
set_option maxRecDepth 100000 in
theorem dval_any (p g : Int) (na : Option Addr) (nl nc : Nat) (rb a : Nat) (s : ByteArray) (bad : Bool) (w : World) (h : DRd w rb s a bad) (hf : a ≤ s.size) (hs : s.size ≤ 60000) :
    Calls Try.prog 46 #[.pointer (some ⟨rb, 0, none⟩), .agg #[.int .i64 p, .int .i64 g, .slice na nl nc]] w fun e w' => ∃ (v : Vl) (a' : Nat) (bad' : Bool), e = .returned (vlV v) ∧ VlIn v ∧ DrK s a bad (dval p g) v a' bad' ∧ DRd w' rb s a' bad' ∧ w.grownBy w' (some rb) := by
  have hlt := (Array.getElem?_eq_some_iff.1 h).1
  have HR := (show Hid _ from h)
  clear h
  go_enter Try.func46, Try.ntmps46
  go_upto_region 2 with (fail)
  obtain ⟨V0, hV0⟩ : ∃ V, V = (((w.alloc (.cells #[.int .i64 p, .int .i64 g, .slice na nl nc] 24)).alloc (.cells #[.int .i64 0, .int .i64 0, .int .i64 0, .bool false, .int .i64 0, .int .i64 0] 62)).alloc (.cells #[.int .i64 0, .int .i64 0, .int .i64 0, .bool false, .int .i64 0, .int .i64 0] 62)) := ⟨_, rfl⟩
  rw [← hV0]
  have H0 : Hid (VSt V0 w p g na nl nc rb s ⟨0, 0, 0, false, 0, 0⟩ a bad) := by
    rw [hV0]
    refine ⟨⟨?_, ?_, ?_⟩, ?_, grown_al (grown_al (grown_al (grown_rf w _) _) _) _⟩
    · rw [Below.heap_alloc _ _ _ (by simp; omega), Below.heap_alloc _ _ _ (by simp), heap_alloc_new]
    · rw [Below.heap_alloc _ _ _ (by simp)]
      exact (alloc2 w _ _).2
    · have := heap_alloc_new ((w.alloc (.cells #[.int .i64 p, .int .i64 g, .slice na nl nc] 24)).alloc (.cells #[.int .i64 0, .int .i64 0, .int .i64 0, .bool false, .int .i64 0, .int .i64 0] 62)) (.cells #[.int .i64 0, .int .i64 0, .int .i64 0, .bool false, .int .i64 0, .int .i64 0] 62)
      simpa using this
    · unfold DRd
      rw [Below.heap_alloc _ _ _ (by simp; omega), Below.heap_alloc _ _ _ (by simp; omega), Below.heap_alloc _ _ _ hlt]
      exact HR.out
  clear hV0
  obtain ⟨x1, x2⟩ := box_cells H0.out.1.1
  obtain ⟨y1, y2⟩ := box_cells H0.out.1.2.2
  by_cases hp : p = 6
  · have fp : (p == 6) = true := by rw [beq_iff_eq]; exact hp
    have HP := (show Hid _ from hp)
    clear hp
    go_wp2_with fail
    obtain ⟨V1, hV1⟩ : ∃ V, V = V0.setCell ⟨w.heap.size + 1 + 1, 0, none⟩ (.int .i64 3) := ⟨_, rfl⟩
    rw [← hV1]
    have H1 : Hid (VSt V1 w p g na nl nc rb s ⟨3, 0, 0, false, 0, 0⟩ a bad) := by rw [hV1]; exact H0.out.set hlt 0 _ rfl
    clear hV1
    clear x1 x2 y1 y2
    refine (dsigned_any rb a s bad V1 H1.out.2.1 hf hs).mono ?_
    rintro e W1 ⟨lo, a1, b1, rfl, hlo, hk1, hd1, hg1⟩
    have H2 : Hid (VSt W1 w p g na nl nc rb s ⟨3, 0, 0, false, 0, 0⟩ a1 b1) := H1.out.call hlt hd1 hg1
    clear hd1 hg1
    obtain ⟨y1, y2⟩ := box_cells H2.out.1.2.2
    go_wp2_with fail
    obtain ⟨V2, hV2⟩ : ∃ V, V = W1.setCell ⟨w.heap.size + 1 + 1, 1, none⟩ (.int .i64 lo) := ⟨_, rfl⟩
    rw [← hV2]
    have H3 : Hid (VSt V2 w p g na nl nc rb s ⟨3, lo, 0, false, 0, 0⟩ a1 b1) := by rw [hV2]; exact H2.out.set hlt 1 _ rfl
    clear hV2
    clear y1 y2
    refine (dcount_any rb a1 s b1 V2 H3.out.2.1 hk1.sz hs).mono ?_
    rintro e W2 ⟨n, a2, b2, rfl, hn, hk2, hd2, hg2⟩
    have H4 : Hid (VSt W2 w p g na nl nc rb s ⟨3, lo, 0, false, 0, 0⟩ a2 b2) := H3.out.call hlt hd2 hg2
    have HK : Hid (I64 lo ∧ DrK s a bad rnum lo a1 b1 ∧ DrK s a1 b1 rc n a2 b2) := ⟨hlo, hk1, hk2⟩
    clear hd2 hg2
    obtain ⟨y1, y2⟩ := box_cells H4.out.1.2.2
    obtain ⟨z1, z2⟩ := box_cells H4.out.2.1
    obtain ⟨x1, x2⟩ := box_cells H4.out.1.2.1
    by_cases hle : lo + (n : Int) ≤ 9223372036854775807
    · have hroom : ¬ (IntKind.u64.wrap (9223372036854775807 - IntKind.u64.wrap lo) < (n : Int)) := by rw [room_eq hlo]; omega
      clear hlo hk1 hk2
      go_wp2_with fail
      have H5 : Hid (VSt W2 w p g na nl nc rb s ⟨3, lo, 0, false, 0, 0⟩ a2 b2) := H4
      have H6 : Hid (VSt _ w p g na nl nc rb s ⟨3, lo, hiOf lo n, false, 0, 0⟩ a2 b2) := H5.out.set hlt 2 (.int .i64 (hiOf lo n)) rfl
      have hdr : DrK s a bad (dval p g) ⟨3, lo, hiOf lo n, false, 0, 0⟩ a2 b2 := by
        unfold dval
        rw [if_pos HP.out, hi_eq HK.out.1 hle]
        refine HK.out.2.1.bind (HK.out.2.2.bind ?_)
        rw [if_pos hle]
        exact DrK.ret b2 _ HK.out.2.2.sz
      refine bodyPost_ret (v := vlV ⟨3, lo, hiOf lo n, false, 0, 0⟩) (by simp [results, Try.results46, go_sem, x1, vlV, hiOf]) rfl ?_
      have hst := dstore6 H6.out.2.2 H6.out.2.1 (show w.heap.size ≤ w.heap.size + 1 by omega) (by omega) (.int .i64 3) (.int .i64 lo) (.int .i64 (hiOf lo n)) (.bool false) (.int .i64 0) (.int .i64 0)
      exact ⟨⟨3, lo, hiOf lo n, false, 0, 0⟩, a2, b2, rfl, ⟨i64_k 3 (by omega) (by omega), HK.out.1, hi_in lo n, i64_k 0 (by omega) (by omega), i64_k 0 (by omega) (by omega)⟩, hdr, hst.1, hst.2⟩
    · have hroom : (IntKind.u64.wrap (9223372036854775807 - IntKind.u64.wrap lo) < (n : Int)) := by rw [room_eq hlo]; omega
      clear hlo hk1 hk2
      go_wp2_with fail
      have H5 : Hid (VSt (W2.setCell ⟨rb, 2, none⟩ (.bool true)) w p g na nl nc rb s ⟨3, lo, 0, false, 0, 0⟩ a2 true) := H4.out.bad hlt
      have H6 : Hid (VSt _ w p g na nl nc rb s ⟨3, lo, hiOf lo n, false, 0, 0⟩ a2 true) := H5.out.set hlt 2 (.int .i64 (hiOf lo n)) rfl
      have hdr : DrK s a bad (dval p g) ⟨3, lo, hiOf lo n, false, 0, 0⟩ a2 true := by
        unfold dval
        rw [if_pos HP.out]
        refine HK.out.2.1.bind (HK.out.2.2.bind ?_)
        rw [if_neg (by omega)]
        exact DrK.fail b2 _ (Nat.le_refl _) HK.out.2.2.sz
      refine bodyPost_ret (v := vlV ⟨3, lo, hiOf lo n, false, 0, 0⟩) (by simp [results, Try.results46, go_sem, x1, vlV, hiOf]) rfl ?_
      have hst := dstore6 H6.out.2.2 H6.out.2.1 (show w.heap.size ≤ w.heap.size + 1 by omega) (by omega) (.int .i64 3) (.int .i64 lo) (.int .i64 (hiOf lo n)) (.bool false) (.int .i64 0) (.int .i64 0)
      exact ⟨⟨3, lo, hiOf lo n, false, 0, 0⟩, a2, true, rfl, ⟨i64_k 3 (by omega) (by omega), HK.out.1, hi_in lo n, i64_k 0 (by omega) (by omega), i64_k 0 (by omega) (by omega)⟩, hdr, hst.1, hst.2⟩
  · have fp : (p == 6) = false := by rw [beq_eq_false_iff_ne]; exact hp
    have HP : Hid (¬ p = 6) := hp
    clear hp
    go_wp2_with fail
    refine (dbyte_any rb a s bad V0 H0.out.2.1 hf hs).mono ?_
    rintro e W1 ⟨b, a1, b1, rfl, hk1, hd1, hg1⟩
    have H1 : Hid (VSt W1 w p g na nl nc rb s ⟨0, 0, 0, false, 0, 0⟩ a1 b1) := H0.out.call hlt hd1 hg1
    have HK : Hid (DrK s a bad roct b a1 b1) := hk1
    have hb256 := UInt8.toNat_lt b
    have hz1 := hk1.sz
    clear hd1 hg1 x1 x2 y1 y2 hk1
    obtain ⟨y1, y2⟩ := box_cells H1.out.1.2.2
    obtain ⟨x1, x2⟩ := box_cells H1.out.1.2.1
    obtain ⟨z1, z2⟩ := box_cells H1.out.2.1
    obtain ⟨r1, r2⟩ := box_cells H1.out.1.1
    have n1 : ¬ rb = w.heap.size + 1 + 1 := by omega
    have n2 : ¬ w.heap.size + 1 + 1 = rb := by omega
    have n3 : ¬ rb = w.heap.size := by omega
    have n4 : ¬ w.heap.size = rb := by omega
    have n5 : ¬ rb = w.heap.size + 1 := by omega
    have n6 : ¬ w.heap.size + 1 = rb := by omega
    by_cases hb1 : b.toNat = 1
    · obtain rfl : b = 1 := UInt8.toNat.inj hb1
      rw [show (((1 : UInt8).toNat : Nat) : Int) = 1 from rfl]
      clear hb1 hb256
      go_wp2_with fail
      obtain ⟨V1, hV1⟩ : ∃ V, V = W1.setCell ⟨w.heap.size + 1 + 1, 0, none⟩ (.int .i64 1) := ⟨_, rfl⟩
      rw [← hV1]
      have H2 : Hid (VSt V1 w p g na nl nc rb s ⟨1, 0, 0, false, 0, 0⟩ a1 b1) := by rw [hV1]; exact H1.out.set hlt 0 _ rfl
      clear hV1
      clear x1 x2 y1 y2 z1 z2 r1 r2
      refine (dsigned_any rb a1 s b1 V1 H2.out.2.1 hz1 hs).mono ?_
      rintro e W2 ⟨lo, a2, b2, rfl, hlo, hk2, hd2, hg2⟩
      have H3 : Hid (VSt W2 w p g na nl nc rb s ⟨1, 0, 0, false, 0, 0⟩ a2 b2) := H2.out.call hlt hd2 hg2
      have HK2 : Hid (I64 lo ∧ DrK s a1 b1 rnum lo a2 b2) := ⟨hlo, hk2⟩
      clear hd2 hg2 hk2 hlo
      obtain ⟨y1, y2⟩ := box_cells H3.out.1.2.2
      obtain ⟨x1, x2⟩ := box_cells H3.out.1.2.1
      obtain ⟨z1, z2⟩ := box_cells H3.out.2.1
      obtain ⟨r1, r2⟩ := box_cells H3.out.1.1
      go_wp2_with fail
      have H4 : Hid (VSt _ w p g na nl nc rb s ⟨1, lo, 0, false, 0, 0⟩ a2 b2) := H3.out.set hlt 1 (.int .i64 lo) rfl
      have hdr : DrK s a bad (dval p g) ⟨1, lo, 0, false, 0, 0⟩ a2 b2 := by
        unfold dval
        rw [if_neg HP.out]
        refine HK.out.bind ?_
        rw [if_pos (by rfl)]
        exact HK2.out.2.bind (DrK.ret b2 _ HK2.out.2.sz)
      refine bodyPost_ret (v := vlV ⟨1, lo, 0, false, 0, 0⟩) (by simp [results, Try.results46, go_sem, x1, vlV, hiOf]) rfl ?_
      have hst := dstore6 H4.out.2.2 H4.out.2.1 (show w.heap.size ≤ w.heap.size + 1 by omega) (by omega) (.int .i64 1) (.int .i64 lo) (.int .i64 0) (.bool false) (.int .i64 0) (.int .i64 0)
      exact ⟨⟨1, lo, 0, false, 0, 0⟩, a2, b2, rfl, ⟨i64_k 1 (by omega) (by omega), HK2.out.1, i64_k 0 (by omega) (by omega), i64_k 0 (by omega) (by omega), i64_k 0 (by omega) (by omega)⟩, hdr, hst.1, hst.2⟩
    · by_cases hb2 : b.toNat = 2
      · obtain rfl : b = 2 := UInt8.toNat.inj hb2
        rw [show (((2 : UInt8).toNat : Nat) : Int) = 2 from rfl]
        clear hb1 hb2 hb256
        by_cases hg : g = 1
        · have fg : (g == 1) = true := by rw [beq_iff_eq]; exact hg
          have HG : Hid (g = 1) := hg
          clear hg
          go_wp2_with fail
          obtain ⟨V1, hV1⟩ : ∃ V, V = W1.setCell ⟨w.heap.size + 1 + 1, 0, none⟩ (.int .i64 2) := ⟨_, rfl⟩
          rw [← hV1]
          have H2 : Hid (VSt V1 w p g na nl nc rb s ⟨2, 0, 0, false, 0, 0⟩ a1 b1) := by rw [hV1]; exact H1.out.set hlt 0 _ rfl
          clear hV1
          clear x1 x2 y1 y2 z1 z2 r1 r2
          refine (dmost_any rb a1 1 s b1 V1 H2.out.2.1 hz1 hs (by omega)).mono ?_
          rintro e W2 ⟨y, a2, b2, rfl, hy, hk2, hd2, hg2⟩
          have H3 : Hid (VSt W2 w p g na nl nc rb s ⟨2, 0, 0, false, 0, 0⟩ a2 b2) := H2.out.call hlt hd2 hg2
          have HK2 : Hid (DrK s a1 b1 (rsm ((1 : Nat) : Int)) y a2 b2) := hk2
          have hz2 := hk2.sz
          have hl2 := hk2.le
          clear hd2 hg2 hk2
          obtain ⟨y1, y2⟩ := box_cells H3.out.1.2.2
          obtain ⟨x1, x2⟩ := box_cells H3.out.1.2.1
          obtain ⟨z1, z2⟩ := box_cells H3.out.2.1
          obtain ⟨r1, r2⟩ := box_cells H3.out.1.1
          by_cases hy1 : y = 1
          · subst hy1
            go_wp2_with fail
            obtain ⟨V2, hV2⟩ : ∃ V, V = W2.setCell ⟨w.heap.size + 1 + 1, 3, none⟩ (.bool true) := ⟨_, rfl⟩
            rw [← hV2]
            have H4 : Hid (VSt V2 w p g na nl nc rb s ⟨2, 0, 0, true, 0, 0⟩ a2 b2) := by rw [hV2]; exact H3.out.set hlt 3 _ rfl
            clear hV2
            clear x1 x2 y1 y2 z1 z2 r1 r2
            refine (dsigned_any rb a2 s b2 V2 H4.out.2.1 hz2 hs).mono ?_
            rintro e W3 ⟨x3, a3, b3, rfl, hx3, hk3, hd3, hg3⟩
            have H5 : Hid (VSt W3 w p g na nl nc rb s ⟨2, 0, 0, true, 0, 0⟩ a3 b3) := H4.out.call hlt hd3 hg3
            have HK3 : Hid (I64 x3 ∧ DrK s a2 b2 rnum x3 a3 b3) := ⟨hx3, hk3⟩
            have hz3 := hk3.sz
            have hl3 := hk3.le
            clear hd3 hg3 hk3 hx3
            obtain ⟨y1, y2⟩ := box_cells H5.out.1.2.2
            obtain ⟨x1, x2⟩ := box_cells H5.out.1.2.1
            obtain ⟨z1, z2⟩ := box_cells H5.out.2.1
            obtain ⟨r1, r2⟩ := box_cells H5.out.1.1
            go_wp2_with fail
            obtain ⟨V3, hV3⟩ : ∃ V, V = W3.setCell ⟨w.heap.size + 1 + 1, 4, none⟩ (.int .i64 x3) := ⟨_, rfl⟩
            rw [← hV3]
            have H6 : Hid (VSt V3 w p g na nl nc rb s ⟨2, 0, 0, true, x3, 0⟩ a3 b3) := by rw [hV3]; exact H5.out.set hlt 4 _ rfl
            clear hV3
            clear x1 x2 y1 y2 z1 z2 r1 r2
            refine (dmost_any rb a3 100000 s b3 V3 H6.out.2.1 hz3 hs (by omega)).mono ?_
            rintro e W4 ⟨k, a4, b4, rfl, hk, hk4, hd4, hg4⟩
            have H7 : Hid (VSt W4 w p g na nl nc rb s ⟨2, 0, 0, true, x3, 0⟩ a4 b4) := H6.out.call hlt hd4 hg4
            have HK4 : Hid (DrK s a3 b3 (rsm ((100000 : Nat) : Int)) k a4 b4) := hk4
            have hz4 := hk4.sz
            have hl4 := hk4.le
            clear hd4 hg4 hk4
            obtain ⟨y1, y2⟩ := box_cells H7.out.1.2.2
            obtain ⟨x1, x2⟩ := box_cells H7.out.1.2.1
            obtain ⟨z1, z2⟩ := box_cells H7.out.2.1
            obtain ⟨r1, r2⟩ := box_cells H7.out.1.1
            go_wp2_with fail
            have H8 : Hid (VSt _ w p g na nl nc rb s ⟨2, 0, 0, true, x3, (k : Int)⟩ a4 b4) := H7.out.set hlt 5 (.int .i64 (k : Int)) rfl
            have hdr : DrK s a bad (dval p g) ⟨2, 0, 0, true, x3, (k : Int)⟩ a4 b4 := by
              unfold dval
              rw [if_neg HP.out]
              refine HK.out.bind ?_
              rw [if_neg (by decide), if_pos (by rfl)]
              rw [if_pos HG.out]
              refine HK2.out.bind ?_
              rw [if_pos rfl]
              exact HK3.out.2.bind (HK4.out.bind (DrK.ret b4 _ HK4.out.sz))
            refine bodyPost_ret (v := vlV ⟨2, 0, 0, true, x3, (k : Int)⟩) (by simp [results, Try.results46, go_sem, x1, vlV, hiOf]) rfl ?_
            have hst := dstore6 H8.out.2.2 H8.out.2.1 (show w.heap.size ≤ w.heap.size + 1 by omega) (by omega) (.int .i64 2) (.int .i64 0) (.int .i64 0) (.bool true) (.int .i64 x3) (.int .i64 (k : Int))
            exact ⟨⟨2, 0, 0, true, x3, (k : Int)⟩, a4, b4, rfl, ⟨i64_k 2 (by omega) (by omega), i64_k 0 (by omega) (by omega), i64_k 0 (by omega) (by omega), HK3.out.1, ⟨by simp only; omega, by simp only; omega⟩⟩, hdr, hst.1, hst.2⟩
          · have hy2 : ((y : Int) == 1) = false := by rw [beq_eq_false_iff_ne]; omega
            go_wp2_with fail
            have hdr : DrK s a bad (dval p g) ⟨2, 0, 0, false, 0, 0⟩ a2 b2 := by
              unfold dval
              rw [if_neg HP.out]
              refine HK.out.bind ?_
              rw [if_neg (by decide), if_pos (by rfl)]
              rw [if_pos HG.out]
              refine HK2.out.bind ?_
              rw [if_neg hy1]
              exact DrK.ret b2 _ HK2.out.sz
            refine bodyPost_ret (v := vlV ⟨2, 0, 0, false, 0, 0⟩) (by simp [results, Try.results46, go_sem, x1, vlV, hiOf]) rfl ?_
            have hst := dstore6 H3.out.2.2 H3.out.2.1 (show w.heap.size ≤ w.heap.size + 1 by omega) (by omega) (.int .i64 2) (.int .i64 0) (.int .i64 0) (.bool false) (.int .i64 0) (.int .i64 0)
            exact ⟨⟨2, 0, 0, false, 0, 0⟩, a2, b2, rfl, ⟨i64_k 2 (by omega) (by omega), i64_k 0 (by omega) (by omega), i64_k 0 (by omega) (by omega), i64_k 0 (by omega) (by omega), i64_k 0 (by omega) (by omega)⟩, hdr, hst.1, hst.2⟩
        · have fg : (g == 1) = false := by rw [beq_eq_false_iff_ne]; exact hg
          have HG : Hid (¬ g = 1) := hg
          clear hg
          go_wp2_with fail
          have H2 : Hid (VSt (W1.setCell ⟨w.heap.size + 1 + 1, 0, none⟩ (.int .i64 2)) w p g na nl nc rb s ⟨2, 0, 0, false, 0, 0⟩ a1 b1) := H1.out.set hlt 0 _ rfl
          have hdr : DrK s a bad (dval p g) ⟨2, 0, 0, false, 0, 0⟩ a1 b1 := by
            unfold dval
            rw [if_neg HP.out]
            refine HK.out.bind ?_
            rw [if_neg (by decide), if_pos (by rfl)]
            rw [if_neg HG.out]
            exact DrK.ret b1 _ hz1
          refine bodyPost_ret (v := vlV ⟨2, 0, 0, false, 0, 0⟩) (by simp [results, Try.results46, go_sem, x1, vlV, hiOf]) rfl ?_
          have hst := dstore6 H2.out.2.2 H2.out.2.1 (show w.heap.size ≤ w.heap.size + 1 by omega) (by omega) (.int .i64 2) (.int .i64 0) (.int .i64 0) (.bool false) (.int .i64 0) (.int .i64 0)
          exact ⟨⟨2, 0, 0, false, 0, 0⟩, a1, b1, rfl, ⟨i64_k 2 (by omega) (by omega), i64_k 0 (by omega) (by omega), i64_k 0 (by omega) (by omega), i64_k 0 (by omega) (by omega), i64_k 0 (by omega) (by omega)⟩, hdr, hst.1, hst.2⟩
      · have hq1 : ((b.toNat : Int) == 1) = false := by rw [beq_eq_false_iff_ne]; omega
        have hq2 : ((b.toNat : Int) != 2) = true := by rw [bne_iff_ne]; omega
        have hkin : I64 (b.toNat : Int) := ⟨by omega, by omega⟩
        have HQ : Hid (¬ b.toNat = 1 ∧ ¬ b.toNat = 2) := ⟨hb1, hb2⟩
        clear hb1 hb2
        by_cases hg : g = 1
        · have fg : (g == 1) = true := by rw [beq_iff_eq]; exact hg
          have HG : Hid (g = 1) := hg
          clear hg
          go_wp2_with fail
          obtain ⟨V1, hV1⟩ : ∃ V, V = (W1.setCell ⟨w.heap.size + 1 + 1, 0, none⟩ (.int .i64 (b.toNat : Int))).setCell ⟨rb, 2, none⟩ (.bool true) := ⟨_, rfl⟩
          rw [← hV1]
          have H2 : Hid (VSt V1 w p g na nl nc rb s ⟨(b.toNat : Int), 0, 0, false, 0, 0⟩ a1 true) := by rw [hV1]; exact VSt.bad (VSt.set (v' := ⟨(b.toNat : Int), 0, 0, false, 0, 0⟩) H1.out hlt 0 _ rfl) hlt
          clear hV1
          clear x1 x2 y1 y2 z1 z2 r1 r2
          refine (dmost_any rb a1 1 s true V1 H2.out.2.1 hz1 hs (by omega)).mono ?_
          rintro e W2 ⟨y, a2, b2, rfl, hy, hk2, hd2, hg2⟩
          have H3 : Hid (VSt W2 w p g na nl nc rb s ⟨(b.toNat : Int), 0, 0, false, 0, 0⟩ a2 b2) := H2.out.call hlt hd2 hg2
          have HK2 : Hid (DrK s a1 true (rsm ((1 : Nat) : Int)) y a2 b2) := hk2
          have hz2 := hk2.sz
          have hl2 := hk2.le
          clear hd2 hg2 hk2
          obtain rfl := HK2.out.stays
          obtain ⟨y1, y2⟩ := box_cells H3.out.1.2.2
          obtain ⟨x1, x2⟩ := box_cells H3.out.1.2.1
          obtain ⟨z1, z2⟩ := box_cells H3.out.2.1
          obtain ⟨r1, r2⟩ := box_cells H3.out.1.1
          by_cases hy1 : y = 1
          · subst hy1
            go_wp2_with fail
            obtain ⟨V2, hV2⟩ : ∃ V, V = W2.setCell ⟨w.heap.size + 1 + 1, 3, none⟩ (.bool true) := ⟨_, rfl⟩
            rw [← hV2]
            have H4 : Hid (VSt V2 w p g na nl nc rb s ⟨(b.toNat : Int), 0, 0, true, 0, 0⟩ a2 true) := by rw [hV2]; exact H3.out.set hlt 3 _ rfl
            clear hV2
            clear x1 x2 y1 y2 z1 z2 r1 r2
            refine (dsigned_any rb a2 s true V2 H4.out.2.1 hz2 hs).mono ?_
            rintro e W3 ⟨x3, a3, b3, rfl, hx3, hk3, hd3, hg3⟩
            have H5 : Hid (VSt W3 w p g na nl nc rb s ⟨(b.toNat : Int), 0, 0, true, 0, 0⟩ a3 b3) := H4.out.call hlt hd3 hg3
            have HK3 : Hid (I64 x3 ∧ DrK s a2 true rnum x3 a3 b3) := ⟨hx3, hk3⟩
            have hz3 := hk3.sz
            have hl3 := hk3.le
            clear hd3 hg3 hk3 hx3
            obtain rfl := HK3.out.2.stays
            obtain ⟨y1, y2⟩ := box_cells H5.out.1.2.2
            obtain ⟨x1, x2⟩ := box_cells H5.out.1.2.1
            obtain ⟨z1, z2⟩ := box_cells H5.out.2.1
            obtain ⟨r1, r2⟩ := box_cells H5.out.1.1
            go_wp2_with fail
            obtain ⟨V3, hV3⟩ : ∃ V, V = W3.setCell ⟨w.heap.size + 1 + 1, 4, none⟩ (.int .i64 x3) := ⟨_, rfl⟩
            rw [← hV3]
            have H6 : Hid (VSt V3 w p g na nl nc rb s ⟨(b.toNat : Int), 0, 0, true, x3, 0⟩ a3 true) := by rw [hV3]; exact H5.out.set hlt 4 _ rfl
            clear hV3
            clear x1 x2 y1 y2 z1 z2 r1 r2
            refine (dmost_any rb a3 100000 s true V3 H6.out.2.1 hz3 hs (by omega)).mono ?_
            rintro e W4 ⟨k, a4, b4, rfl, hk, hk4, hd4, hg4⟩
            have H7 : Hid (VSt W4 w p g na nl nc rb s ⟨(b.toNat : Int), 0, 0, true, x3, 0⟩ a4 b4) := H6.out.call hlt hd4 hg4
            have HK4 : Hid (DrK s a3 true (rsm ((100000 : Nat) : Int)) k a4 b4) := hk4
            have hz4 := hk4.sz
            have hl4 := hk4.le
            clear hd4 hg4 hk4
            obtain rfl := HK4.out.stays
            obtain ⟨y1, y2⟩ := box_cells H7.out.1.2.2
            obtain ⟨x1, x2⟩ := box_cells H7.out.1.2.1
            obtain ⟨z1, z2⟩ := box_cells H7.out.2.1
            obtain ⟨r1, r2⟩ := box_cells H7.out.1.1
            go_wp2_with fail
            have H8 : Hid (VSt _ w p g na nl nc rb s ⟨(b.toNat : Int), 0, 0, true, x3, (k : Int)⟩ a4 true) := H7.out.set hlt 5 (.int .i64 (k : Int)) rfl
            have hdr : DrK s a bad (dval p g) ⟨(b.toNat : Int), 0, 0, true, x3, (k : Int)⟩ a4 true := by
              unfold dval
              rw [if_neg HP.out]
              refine HK.out.bind ?_
              rw [if_neg HQ.out.1, if_neg HQ.out.2]
              exact DrK.fail b1 _ (by omega) (by omega)
            refine bodyPost_ret (v := vlV ⟨(b.toNat : Int), 0, 0, true, x3, (k : Int)⟩) (by simp [results, Try.results46, go_sem, x1, vlV, hiOf]) rfl ?_
            have hst := dstore6 H8.out.2.2 H8.out.2.1 (show w.heap.size ≤ w.heap.size + 1 by omega) (by omega) (.int .i64 (b.toNat : Int)) (.int .i64 0) (.int .i64 0) (.bool true) (.int .i64 x3) (.int .i64 (k : Int))
            exact ⟨⟨(b.toNat : Int), 0, 0, true, x3, (k : Int)⟩, a4, true, rfl, ⟨hkin, i64_k 0 (by omega) (by omega), i64_k 0 (by omega) (by omega), HK3.out.1, ⟨by simp only; omega, by simp only; omega⟩⟩, hdr, hst.1, hst.2⟩
          · have hy2 : ((y : Int) == 1) = false := by rw [beq_eq_false_iff_ne]; omega
            go_wp2_with fail
            have hdr : DrK s a bad (dval p g) ⟨(b.toNat : Int), 0, 0, false, 0, 0⟩ a2 true := by
              unfold dval
              rw [if_neg HP.out]
              refine HK.out.bind ?_
              rw [if_neg HQ.out.1, if_neg HQ.out.2]
              exact DrK.fail b1 _ (by omega) (by omega)
            refine bodyPost_ret (v := vlV ⟨(b.toNat : Int), 0, 0, false, 0, 0⟩) (by simp [results, Try.results46, go_sem, x1, vlV, hiOf]) rfl ?_
            have hst := dstore6 H3.out.2.2 H3.out.2.1 (show w.heap.size ≤ w.heap.size + 1 by omega) (by omega) (.int .i64 (b.toNat : Int)) (.int .i64 0) (.int .i64 0) (.bool false) (.int .i64 0) (.int .i64 0)
            exact ⟨⟨(b.toNat : Int), 0, 0, false, 0, 0⟩, a2, true, rfl, ⟨hkin, i64_k 0 (by omega) (by omega), i64_k 0 (by omega) (by omega), i64_k 0 (by omega) (by omega), i64_k 0 (by omega) (by omega)⟩, hdr, hst.1, hst.2⟩
        · have fg : (g == 1) = false := by rw [beq_eq_false_iff_ne]; exact hg
          have HG : Hid (¬ g = 1) := hg
          clear hg
          go_wp2_with fail
          have H2 : Hid (VSt ((W1.setCell ⟨w.heap.size + 1 + 1, 0, none⟩ (.int .i64 (b.toNat : Int))).setCell ⟨rb, 2, none⟩ (.bool true)) w p g na nl nc rb s ⟨(b.toNat : Int), 0, 0, false, 0, 0⟩ a1 true) := VSt.bad (VSt.set (v' := ⟨(b.toNat : Int), 0, 0, false, 0, 0⟩) H1.out hlt 0 _ rfl) hlt
          have hdr : DrK s a bad (dval p g) ⟨(b.toNat : Int), 0, 0, false, 0, 0⟩ a1 true := by
            unfold dval
            rw [if_neg HP.out]
            refine HK.out.bind ?_
            rw [if_neg HQ.out.1, if_neg HQ.out.2]
            exact DrK.fail b1 _ (by omega) (by omega)
          refine bodyPost_ret (v := vlV ⟨(b.toNat : Int), 0, 0, false, 0, 0⟩) (by simp [results, Try.results46, go_sem, x1, vlV, hiOf]) rfl ?_
          have hst := dstore6 H2.out.2.2 H2.out.2.1 (show w.heap.size ≤ w.heap.size + 1 by omega) (by omega) (.int .i64 (b.toNat : Int)) (.int .i64 0) (.int .i64 0) (.bool false) (.int .i64 0) (.int .i64 0)
          exact ⟨⟨(b.toNat : Int), 0, 0, false, 0, 0⟩, a1, true, rfl, ⟨hkin, i64_k 0 (by omega) (by omega), i64_k 0 (by omega) (by omega), i64_k 0 (by omega) (by omega), i64_k 0 (by omega) (by omega)⟩, hdr, hst.1, hst.2⟩
end Go.Proofs.Ytmipbiligijcpaa
