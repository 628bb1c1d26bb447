/- The document's bytes: counts, numbers, values. -/
import Derived.Test.YtmipbiligijcpaaH5
import Derived.Laws.AppendOwnNone
namespace Go.Proofs.Ytmipbiligijcpaa
set_option linter.unusedVariables false
set_option linter.unusedSimpArgs false
open Go.RowKit Go.Proofs Go.Maps

/-- a row of bytes that is new -/
def NewB (w w' : World) (v : Value) (l : List UInt8) : Prop := w'.ownsRow w.heap.size 5 1 v l.length (Lib.byteCells l) ∧ Below w.heap.size w w'
theorem own_lit (w : World) (B : Nat) (l : List UInt8) (hB : B ≤ w.heap.size) (hl : l.length ≤ maxLen) : (w.alloc (.cells (Lib.byteCells l).toArray 5)).ownsRow B 5 1 (.slice (some ⟨w.heap.size, 0, none⟩) l.length l.length) l.length (Lib.byteCells l) := by
  refine ⟨by simp [Lib.byteCells], Or.inr ⟨w.heap.size, l.length, _, rfl, hB, heap_alloc_new w _, Nat.le_refl _, hl, by simp [Lib.byteCells], ?_⟩⟩
  rw [List.take_of_length_le (by simp [Lib.byteCells])]
theorem own_below {w w' : World} {B e size n : Nat} {v : Value} {xs : List Value} (h : w.ownsRow B e size v n xs) (hb : Below w.heap.size w w') : w'.ownsRow B e size v n xs := by
  refine ⟨h.1, ?_⟩
  rcases h.2 with a | ⟨g, cap, cur, h1, h2, h3, h4⟩
  · exact Or.inl a
  · exact Or.inr ⟨g, cap, cur, h1, h2, (hb.block g (Array.getElem?_eq_some_iff.1 h3).1).trans h3, h4⟩
theorem own_news {w : World} {B : Nat} {v : Value} {l : List UInt8} (h : w.ownsRow B 5 1 v l.length (Lib.byteCells l)) (h0 : l ≠ []) : ∃ g cap, v = .slice (some ⟨g, 0, none⟩) l.length cap ∧ B ≤ g ∧ ∀ j u, (Lib.byteCells l)[j]? = some u → w.cell? ((⟨g, 0, none⟩ : Addr).add j) = some u := by
  rcases h.2 with ⟨_, e⟩ | ⟨g, cap, cur, hv, hb, _⟩
  · exact absurd (List.length_eq_zero_iff.1 e) h0
  · subst hv
    exact ⟨g, cap, rfl, hb, h.cells (g := g) rfl⟩
theorem bytes_one {l : List UInt8} : ∀ u ∈ Lib.byteCells l, u.oneCell' = true := by
  intro u hu
  simp [Lib.byteCells] at hu
  obtain ⟨a, _, rfl⟩ := hu
  rfl
theorem cnt_ne (n : Nat) : cnt n ≠ [] := by
  by_cases h : n < 128
  · rw [cnt_small h]; simp
  · rw [cnt_big h]; simp
theorem byteCells_app (a b : List UInt8) : Lib.byteCells a ++ Lib.byteCells b = Lib.byteCells (a ++ b) := by simp [Lib.byteCells]
theorem cells_nat {n : Nat} (h : n < 256) : Lib.byteCells [UInt8.ofNat n] = [.int .u8 (n : Int)] := by
  simp only [Lib.byteCells, List.map_cons, List.map_nil]
  rw [← byte_nat h]
set_option maxHeartbeats 1000000 in
set_option maxRecDepth 100000 in
theorem rcount_any : ∀ (m n : Nat), n ≤ m → n < 18446744073709551616 → ∀ (w : World), Calls Try.prog 26 #[.int .u64 n] w fun e w' => ∃ v, e = .returned v ∧ NewB w w' v (cnt n) := by
  intro m
  induction m with
  | zero =>
    intro n hn hn2 w
    obtain rfl : n = 0 := by omega
    go_enter Try.func26, Try.ntmps26
    go_wp2_with fail
    go_ret
    refine ⟨_, rfl, ?_, below1 _ _⟩
    rw [cnt_small (by omega)]
    exact own_lit w _ [UInt8.ofNat 0] (Nat.le_refl _) (by simp [maxLen])
  | succ m ih =>
    intro n hn hn2 w
    by_cases hs : n < 128
    · have hs' : (n : Int) < 128 := by omega
      go_enter Try.func26, Try.ntmps26
      go_wp2_with fail
      go_ret
      refine ⟨_, rfl, ?_, below1 _ _⟩
      rw [cnt_small hs]
      have := own_lit w w.heap.size [UInt8.ofNat n] (Nat.le_refl _) (by simp [maxLen])
      rw [cells_nat (show n < 256 by omega)] at this ⊢
      exact this
    · have hs' : ¬ (n : Int) < 128 := by omega
      obtain ⟨q, hq, hqi⟩ : ∃ q : Nat, q = n / 128 ∧ (n : Int) / 128 = (q : Int) := ⟨n / 128, rfl, by omega⟩
      obtain ⟨c, hc, hci⟩ : ∃ c : Nat, c = n % 128 + 128 ∧ (n : Int) % 128 + 128 = (c : Int) := ⟨n % 128 + 128, rfl, by omega⟩
      have hc8 : c < 256 := by omega
      have hl10 := cnt_le10 hn2
      have hcn : cnt n = [UInt8.ofNat c] ++ cnt q := by rw [cnt_big hs, hc, hq]; rfl
      have hll : 1 + (cnt q).length ≤ 10 := by rw [hcn] at hl10; simp at hl10; omega
      have HI := (show Hid _ from And.intro (ih q (by omega) (by omega)) (And.intro hcn (cells_nat hc8)))
      have hcq : q < n := by omega
      clear ih hcn hl10 hq hc
      obtain ⟨i0, hi, hz0, hz1, hz2⟩ := info_parts infoByte
      have HB := (show Hid _ from And.intro hi (And.intro hz0 (And.intro hz1 hz2)))
      clear hi hz0 hz1 hz2
      go_enter Try.func26, Try.ntmps26
      go_wp2_with fail
      refine (HI.out.1 _).mono ?_
      rintro e W1 ⟨v, rfl, hown, hb⟩
      have h1 := own_lit w w.heap.size [UInt8.ofNat c] (Nat.le_refl _) (by simp [maxLen])
      rw [HI.out.2.2] at h1
      have h2 := own_below h1 hb
      obtain ⟨g, cap, rfl, hgB, hcell⟩ := own_news hown (cnt_ne q)
      have HO := (show Hid _ from And.intro h2 (And.intro hcell hb))
      clear h1 h2 hown hcell hb
      go_wp2_with (at_builtin; refine wpList_append_own _ rfl _ _ 64 rfl w.heap.size 5 i0 (.int .u8 0) 1 1 Try.underlying64 HB.out.1 HB.out.2.1 HB.out.2.2.1 HB.out.2.2.2 rfl (by decide) _ _ _ rfl HO.out.1 ⟨g, 0, none⟩ (cnt q).length cap (Lib.byteCells (cnt q)) rfl (by simp [Lib.byteCells]) HO.out.2.1 bytes_one (by simp [maxLen]; omega) (by simp; omega) (by have := HO.out.2.2.size; simp at this; omega) ?_; intro v2 W2 o2 g2 _; obtain ⟨a2, c2, rfl⟩ := sl_of_own o2)
      go_ret
      refine ⟨_, rfl, ?_, ?_⟩
      · rw [HI.out.2.1, List.length_append, ← byteCells_app, HI.out.2.2]
        exact o2
      · have hB1 := below_trans (below1 w (.cells #[.int .u8 (c : Int)] 5)) HO.out.2.2
        exact hB1.grown g2 hB1.size (fun k hk => (HO.out.1.lt k hk).1)
set_option maxHeartbeats 1000000 in
theorem rsigned_any (x : Int) (w : World) (hx : I64 x) : Calls Try.prog 61 #[.int .i64 x] w fun e w' => ∃ v, e = .returned v ∧ NewB w w' v (sgn x) := by
  have hz := zig_lt hx
  obtain ⟨hx1, hx2⟩ := hx
  have HC := (show Hid _ from rcount_any (zig x) (zig x) (Nat.le_refl _) hz)
  by_cases h0 : 0 ≤ x
  · have e : 2 * x = ((zig x : Nat) : Int) := by unfold zig; rw [if_pos h0]; omega
    go_enter Try.func61, Try.ntmps61
    go_wp2_with fail
    refine (HC.out _).mono ?_
    rintro e W1 ⟨v, rfl, hown, hb⟩
    obtain ⟨a2, c2, rfl⟩ := sl_of_own hown
    have HO := (show Hid _ from And.intro hown hb)
    clear hown hb
    go_wp2_with fail
    go_ret
    exact ⟨_, rfl, HO.out⟩
  · have e : 2 * -(x + 1) + 1 = ((zig x : Nat) : Int) := by unfold zig; rw [if_neg h0]; omega
    go_enter Try.func61, Try.ntmps61
    go_wp2_with fail
    refine (HC.out _).mono ?_
    rintro e W1 ⟨v, rfl, hown, hb⟩
    obtain ⟨a2, c2, rfl⟩ := sl_of_own hown
    have HO := (show Hid _ from And.intro hown hb)
    clear hown hb
    go_wp2_with fail
    go_ret
    exact ⟨_, rfl, HO.out⟩
end Go.Proofs.Ytmipbiligijcpaa
