/- The program's writer: bytes, counts, numbers. -/
import Derived.Test.YtmipbiligijcpaaB2
import Derived.Test.YtmipbiligijcpaaProg
import Derived.Test.YtmipbiligijcpaaD1
import Derived.Lib.FrozenHead
namespace Go.Proofs.Ytmipbiligijcpaa
set_option linter.unusedVariables false
set_option linter.unusedSimpArgs false
open Go.RowKit Go.Proofs Go.Maps

/-- block b is a writer that holds the bytes l; its row is owned from block B on -/
def Wr (w : World) (B b : Nat) (l : List UInt8) : Prop :=
  B ≤ b ∧ ∃ v, w.heap[b]? = some (.cells #[v] 82 (0, 0)) ∧ w.ownsRow B 5 1 v l.length (Lib.byteCells l) ∧ v.ownBlock ≠ some b
/-- what was written -/
structure Wrote (w w' : World) (B b : Nat) (l : List UInt8) : Prop where
  wr : Wr w' B b l
  kp : Kp b w w'
  below : Below B w w'
theorem Wr.lt {w : World} {B b : Nat} {l : List UInt8} (h : Wr w B b l) : b < w.heap.size := (Array.getElem?_eq_some_iff.1 h.2.choose_spec.1).1
theorem Wr.alloc {w : World} {B b : Nat} {l : List UInt8} (h : Wr w B b l) (o : Obj) : Wr (w.alloc o) B b l := by
  obtain ⟨hB, v, hb, ho, hn⟩ := h
  exact ⟨hB, v, (Below.heap_alloc _ _ _ (Array.getElem?_eq_some_iff.1 hb).1).trans hb, ho.alloc o, hn⟩
theorem Wrote.trans {u v w : World} {B b : Nat} {l m : List UInt8} (h : Wrote u v B b l) (k : Wrote v w B b m) : Wrote u w B b m := ⟨k.wr, h.kp.trans k.kp, h.below.trans k.below⟩
theorem kp_alloc (b : Nat) (w : World) (o : Obj) : Kp b w (w.alloc o) := ⟨rfl, rfl, rfl, by simp, fun _ _ a _ _ => (Below.heap_alloc _ _ _ (Array.getElem?_eq_some_iff.1 a).1).trans a⟩
theorem Wr.wrote {w : World} {B b : Nat} {l : List UInt8} (h : Wr w B b l) : Wrote w w B b l := ⟨h, Kp.refl _ _, Below.refl _ _⟩
theorem Wrote.alloc {u w : World} {B b : Nat} {l : List UInt8} (h : Wrote u w B b l) (o : Obj) : Wrote u (w.alloc o) B b l :=
  ⟨h.wr.alloc o, h.kp.trans (kp_alloc _ _ _), h.below.alloc (Nat.le_of_lt (Nat.lt_of_le_of_lt h.wr.1 h.wr.lt)) _⟩
theorem Wrote.box {w w' : World} {B b k : Nat} {l q : List UInt8} {cs : Array Value} {t : TypeId} (h : Wrote w w' B b l) (hw : Wr w B b q) (hk : w.heap[k]? = some (.cells cs t (0, 0))) (ht : t ≠ 82) (h5 : t ≠ 5) : w'.heap[k]? = some (.cells cs t (0, 0)) := by
  refine h.kp.keep k _ hk ?_ (fun c' f' e => by simp at e; exact h5 e.2.1)
  rintro rfl
  obtain ⟨_, v, hb, _⟩ := hw
  rw [hk] at hb
  simp at hb
  exact ht hb.2
set_option maxHeartbeats 1000000 in
set_option maxRecDepth 100000 in
theorem octet_any (B b : Nat) (l : List UInt8) (c : UInt8) (w : World) (h : Wr w B b l) (hlen : l.length + 1 ≤ 140737488355328) :
    Calls Try.prog 36 #[.pointer (some ⟨b, 0, none⟩), .int .u8 c.toNat] w fun e w' => e = .returned (.tuple #[]) ∧ Wrote w w' B b (l ++ [c]) := by
  obtain ⟨i0, hi, hz0, hz1, hz2⟩ := info_parts infoByte
  have hbw := Nat.lt_of_le_of_lt h.1 h.lt
  obtain ⟨hB, v, hbk, hown, hne⟩ := h
  have c1 : w.cell? ⟨b, 0, none⟩ = some v := by rw [Lib.cell_of_heap hbk]; rfl
  have hlt : b < w.heap.size := (Array.getElem?_eq_some_iff.1 hbk).1
  have HR := (show Hid _ from And.intro hbk (And.intro hown hne))
  clear hown hbk
  go_enter Try.func36, Try.ntmps36
  go_wp2_with (at_builtin; refine wpList_append_own _ rfl _ _ 64 rfl B 5 i0 (.int .u8 0) 1 1 Try.underlying64 hi hz0 hz1 hz2 rfl (by decide) _ _ _ rfl (HR.out.2.1.alloc _) ⟨w.heap.size, 0, none⟩ 1 1 [.int .u8 c.toNat] rfl rfl ?c1 ?c2 ?c3 ?c4 ?c5 ?_)
  case c1 => exact cell_one _ _ _
  case c2 => intro u hu; simp at hu; subst hu; rfl
  case c3 => unfold maxLen; omega
  case c4 => omega
  case c5 => simp; omega
  intro v' w2 hown' hgrow _
  obtain ⟨hbk, hown, hne⟩ := HR.out
  have hb2 : w2.heap[b]? = some (.cells #[v] 82 (0, 0)) := by
    rw [hgrow.block b (by simp; omega) (fun e => hne e.symm)]
    exact (Below.heap_alloc _ _ _ hlt).trans hbk
  have d1 : w2.cell? ⟨b, 0, none⟩ = some v := by rw [Lib.cell_of_heap hb2]; rfl
  have f1 : w2.frozen? ⟨b, 0, none⟩ = false := Lib.frozen_of_heap hb2 0
  obtain ⟨ao, cap, rfl⟩ := sl_of_own hown'
  go_wp2
  go_end0
  have hne' : (Value.slice ao (l.length + 1) cap).ownBlock ≠ some b := by
    rcases hown'.2 with ⟨hv, _⟩ | ⟨g, cp, cur, hv, _, hgg, _⟩
    · rw [hv]; simp [Value.ownBlock]
    · rw [hv]
      simp only [Value.ownBlock, ne_eq, Option.some.injEq]
      rintro rfl
      rw [hb2] at hgg
      simp at hgg
  refine ⟨rfl, ⟨hB, _, ?_, ?_, hne'⟩, kp_set ((kp_alloc _ _ _).trans (kp_grown hgrow (hown.alloc _))) 0 _, (((Below.refl _ _).alloc (Nat.le_of_lt hbw) _).grown hgrow (by simp; omega) (fun k hk => (hown.lt k hk).1)).setCell (p := ⟨b, 0, none⟩) hB _⟩
  · simp [World.setCell, Array.getElem?_modify, hb2]
  · have e : Lib.byteCells (l ++ [c]) = Lib.byteCells l ++ [Value.int .u8 c.toNat] := by simp [Lib.byteCells]
    rw [List.length_append, e]
    refine ⟨by simpa using hown'.1, ?_⟩
    rcases hown'.2 with h | ⟨g, cp, cur, hv, h1, h2, h3⟩
    · exact Or.inl h
    · refine Or.inr ⟨g, cp, cur, hv, h1, (Below.heap_setCell _ _ _ _ ?_).trans h2, h3⟩
      rintro rfl
      exact hne' (by rw [hv]; rfl)
theorem flag_any (B b : Nat) (l : List UInt8) (c : Bool) (w : World) (h : Wr w B b l) (hlen : l.length + 1 ≤ 140737488355328) :
    Calls Try.prog 52 #[.pointer (some ⟨b, 0, none⟩), .bool c] w fun e w' => e = .returned (.tuple #[]) ∧ Wrote w w' B b (l ++ [if c then 1 else 0]) := by
  cases c with
  | true =>
    go_enter Try.func52, Try.ntmps52
    go_wp2_with (go_at_call 36; refine (octet_any B b l 1 _ h hlen).mono ?_; rintro e w1 ⟨rfl, h1⟩)
    go_end0
    exact ⟨rfl, h1⟩
  | false =>
    go_enter Try.func52, Try.ntmps52
    go_wp2_with (go_at_call 36; refine (octet_any B b l 0 _ h hlen).mono ?_; rintro e w1 ⟨rfl, h1⟩)
    go_end0
    exact ⟨rfl, h1⟩
theorem or128_lt : ∀ r : Fin 256, bits BinOp.or IntKind.u8 ((r.val : Nat) : Int) 128 = ((r.val % 128 + 128 : Nat) : Int) := by decide +kernel
theorem or128 (m : Nat) : bits BinOp.or IntKind.u8 ((m : Int) % 256) 128 = (((UInt8.ofNat (m % 128 + 128)).toNat : Nat) : Int) := by
  have h := or128_lt ⟨m % 256, Nat.mod_lt _ (by decide)⟩
  have e : (((⟨m % 256, Nat.mod_lt _ (by decide)⟩ : Fin 256).val : Nat) : Int) = (m : Int) % 256 := by simp
  rw [e] at h
  rw [h]
  simp only [UInt8.toNat_ofNat']
  omega
theorem byte_nat {m : Nat} (h : m < 256) : (m : Int) = (((UInt8.ofNat m).toNat : Nat) : Int) := by simp only [UInt8.toNat_ofNat']; omega
set_option maxHeartbeats 1000000 in
set_option maxRecDepth 100000 in
theorem count_any (B b : Nat) (l : List UInt8) (n : Nat) (w : World) (h : Wr w B b l) (hn : n < 18446744073709551616) (hlen : (l ++ cnt n).length ≤ 140737488355328) :
    Calls Try.prog 49 #[.pointer (some ⟨b, 0, none⟩), .int .u64 n] w fun e w' => e = .returned (.tuple #[]) ∧ Wrote w w' B b (l ++ cnt n) := by
  have HW := (show Hid _ from h.wrote)
  clear h
  go_enter Try.func49, Try.ntmps49
  go_wp2_with fail
  go_loopw [1] (fun i wr => ∃ (m : Nat) (q : List UInt8), i = .int .u64 m ∧ m < 18446744073709551616 ∧ Hid (q ++ cnt m = l ++ cnt n) ∧ Hid (Wrote w wr B b q)) (fun i _ => (intOf i).toNat)
  case atStart => exact ⟨n, l, rfl, hn, by show _ = _; rfl, HW⟩
  case round =>
    clear HW
    obtain ⟨m, q, rfl, hm, HQ, HW⟩ := hrel
    have hql : q.length + 1 ≤ 140737488355328 := by
      have h1 := congrArg List.length HQ.out
      have h2 : 1 ≤ (cnt m).length := by
        by_cases hs : m < 128
        · rw [cnt_small hs]; simp
        · rw [cnt_big hs]; simp
      simp only [List.length_append] at h1 hlen
      omega
    by_cases hs : m < 128
    · have hs' : ¬ (128 ≤ (m : Int)) := by omega
      go_wp2_with fail
      rw [byte_nat (show m < 256 by omega)]
      refine (octet_any B b q (UInt8.ofNat m) wr HW.out.wr hql).mono ?_
      rintro e w1 ⟨rfl, h1⟩
      go_wp2_with fail
      go_end0
      refine ⟨rfl, HW.out.trans ?_⟩
      rw [← HQ.out, cnt_small hs]
      exact h1
    · have hs' : 128 ≤ (m : Int) := by omega
      go_wp2_with fail
      rw [or128 m]
      refine (octet_any B b q (UInt8.ofNat (m % 128 + 128)) wr HW.out.wr hql).mono ?_
      rintro e w1 ⟨rfl, h1⟩
      go_wp2_with fail
      refine ⟨⟨m / 128, q ++ [UInt8.ofNat (m % 128 + 128)], by simp, by omega, ?_, HW.out.trans h1⟩, by simp [intOf]; omega⟩
      show _ = _
      rw [← HQ.out, cnt_big hs]
      simp
set_option maxHeartbeats 1000000 in
theorem small_any (B b : Nat) (l : List UInt8) (x : Int) (w : World) (h : Wr w B b l) (hx : 0 ≤ x) (hy : x ≤ 9223372036854775807) (hlen : (l ++ cntI x).length ≤ 140737488355328) :
    Calls Try.prog 37 #[.pointer (some ⟨b, 0, none⟩), .int .i64 x] w fun e w' => e = .returned (.tuple #[]) ∧ Wrote w w' B b (l ++ cntI x) := by
  obtain ⟨n, rfl⟩ := Int.eq_ofNat_of_zero_le hx
  have hn : n < 18446744073709551616 := by omega
  have H := (show Hid _ from And.intro h hlen)
  clear h hlen
  go_enter Try.func37, Try.ntmps37
  go_wp2_with (go_at_call 49; refine (count_any B b l n _ H.out.1 hn H.out.2).mono ?_; rintro e w1 ⟨rfl, h1⟩)
  go_end0
  exact ⟨rfl, h1⟩
set_option maxHeartbeats 1000000 in
theorem number_any (B b : Nat) (l : List UInt8) (x : Int) (w : World) (h : Wr w B b l) (hx : I64 x) (hlen : (l ++ sgn x).length ≤ 140737488355328) :
    Calls Try.prog 78 #[.pointer (some ⟨b, 0, none⟩), .int .i64 x] w fun e w' => e = .returned (.tuple #[]) ∧ Wrote w w' B b (l ++ sgn x) := by
  obtain ⟨hx1, hx2⟩ := hx
  have H := (show Hid _ from And.intro h hlen)
  clear h hlen
  have hz : zig x < 18446744073709551616 := by unfold zig; split <;> omega
  by_cases h0 : 0 ≤ x
  · have e : 2 * x = ((zig x : Nat) : Int) := by unfold zig; rw [if_pos h0]; omega
    go_enter Try.func78, Try.ntmps78
    go_wp2_with fail
    refine (count_any B b l (zig x) _ H.out.1 hz H.out.2).mono ?_
    rintro e w1 ⟨rfl, h1⟩
    go_wp2_with fail
    go_end0
    exact ⟨rfl, h1⟩
  · have e : 2 * -(x + 1) + 1 = ((zig x : Nat) : Int) := by unfold zig; rw [if_neg h0]; omega
    go_enter Try.func78, Try.ntmps78
    go_wp2_with fail
    refine (count_any B b l (zig x) _ H.out.1 hz H.out.2).mono ?_
    rintro e w1 ⟨rfl, h1⟩
    go_wp2_with fail
    go_end0
    exact ⟨rfl, h1⟩
end Go.Proofs.Ytmipbiligijcpaa
