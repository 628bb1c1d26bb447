/- A part of the proof: contracts of functions of the program. -/
import Derived.Test.YtmipbiligijcpaaGreatDoorA39
namespace Go.Proofs.YtmipbiligijcpaaGreatDoor
set_option linter.unusedVariables false
set_option linter.unusedSimpArgs false
open Go.RowKit Go.Proofs Go.Maps

abbrev pt64 (i : Nat) : List Value := [.int .i64 (-7 - ((i / 4 : Nat) : Int))]
abbrev ptSt (i : Nat) : List Value := [.int .i64 (-7 - ((i / 4 : Nat) : Int)), .slice none 0 0]
structure BK (W : World) (bb B : Nat) (l2 l3 wt rt : Value) (ls l3s : List Value) : Prop where
  box : W.heap[bb]? = some (.cells (bookCells l2 l3 wt rt) 32 (0, 0))
  r2 : W.ownsRow B 23 1 l2 ls.length ls
  r3 : W.ownsRow B 55 1 l3 l3s.length l3s
  m2 : ∀ i v, ls[i]? = some v → MkAt W 2 (pt64 i) v
  m3 : ∀ i v, l3s[i]? = some v → MkAt W 113 (ptSt i) v
  base : B ≤ W.heap.size
theorem BK.lt {W : World} {bb B : Nat} {l2 l3 wt rt : Value} {ls l3s : List Value} (h : BK W bb B l2 l3 wt rt ls l3s) : bb < W.heap.size := (Array.getElem?_eq_some_iff.1 h.box).1
theorem BK.below {W W' : World} {bb B : Nat} {l2 l3 wt rt : Value} {ls l3s : List Value} (h : BK W bb B l2 l3 wt rt ls l3s) (hb : Below W.heap.size W W') : BK W' bb B l2 l3 wt rt ls l3s :=
  ⟨(hb.block _ h.lt).trans h.box, own_of_below h.r2 hb, own_of_below h.r3 hb, fun i v hv => (h.m2 i v hv).of_block (fun k hk => hb.block k ((h.m2 i v hv).lt k hk)), fun i v hv => (h.m3 i v hv).of_block (fun k hk => hb.block k ((h.m3 i v hv).lt k hk)), Nat.le_trans h.base hb.size⟩
theorem own_ty {w : World} {B e size n k t : Nat} {v : Value} {xs : List Value} {cur : Array Value} (h : w.ownsRow B e size v n xs) (hk : w.heap[k]? = some (.cells cur t (0, 0))) (ht : t ≠ e) : some k ≠ v.ownBlock := by
  intro e0
  obtain ⟨c1, f1, h1⟩ := own_cells h k e0.symm
  rw [h1] at hk
  simp at hk
  exact ht hk.2.1.symm
theorem own_tyof {w : World} {B e size n k : Nat} {v : Value} {xs : List Value} (h : w.ownsRow B e size v n xs) (hk : v.ownBlock = some k) : ∃ cur, w.heap[k]? = some (.cells cur e (0, 0)) := by
  rcases h.2 with ⟨rfl, _⟩ | ⟨g, cap, cur, rfl, _, hg, _⟩
  · cases hk
  · cases hk; exact ⟨cur, hg⟩
theorem NumS.keep {w W : World} {bb B n k t : Nat} {lv l2 l2' l3 wt rt x y z : Value} {ls xs : List Value} {mk : Int} {cs cur : Array Value} (h : NumS w W bb B lv l2 l2' l3 wt rt ls mk x y z) (hb : w.heap[bb]? = some (.cells cs 32 (0, 0))) (hr : w.ownsRow B 23 1 l2 ls.length ls) (hl : w.ownsRow B 2 1 lv n xs) (hk : w.heap[k]? = some (.cells cur t (0, 0))) (h1 : t ≠ 32) (h2 : t ≠ 23) (h3 : t ≠ 2 ∨ some k ≠ lv.ownBlock) : W.heap[k]? = w.heap[k]? := by
  refine h.fr.block k (Array.getElem?_eq_some_iff.1 hk).1 ⟨?_, ?_, own_ty hr hk h2⟩
  · intro e
    subst e
    rw [hb] at hk
    simp at hk
    exact h1 hk.2.symm
  · rcases h3 with h3 | h3
    · exact own_ty hl hk h3
    · exact h3
theorem own_by {w W : World} {B e size n : Nat} {v : Value} {xs : List Value} (ho : w.ownsRow B e size v n xs) (hk : ∀ k cur, v.ownBlock = some k → w.heap[k]? = some (.cells cur e (0, 0)) → W.heap[k]? = w.heap[k]?) : W.ownsRow B e size v n xs := by
  refine ⟨ho.1, ?_⟩
  rcases ho.2 with e0 | ⟨g, cap, cur, e1, c1, c2, c3⟩
  · exact Or.inl e0
  · subst e1
    exact Or.inr ⟨g, cap, cur, rfl, c1, (hk g cur rfl c2).trans c2, c3⟩
theorem BK.num {w W : World} {bb B n q : Nat} {lv l2 l2' l3 wt rt x y z : Value} {ls l3s xs : List Value} (h : BK w bb B l2 l3 wt rt ls l3s) (hq : ls.length = 4 * q) (hl : w.ownsRow B 2 1 lv n xs) (hN : NumS w W bb B lv l2 l2' l3 wt rt ls (-7 - (q : Int)) x y z) (hd : ∀ v ∈ ls, ∀ k, v.ownBlock = some k → some k ≠ lv.ownBlock) : BK W bb B l2' l3 wt rt (ls ++ [lv, x, y, z]) l3s := by
  refine ⟨hN.box, ?_, ?_, ?_, ?_, Nat.le_trans h.base hN.fr.size⟩
  · rw [List.length_append]; exact hN.row
  · exact own_by h.r3 (fun k cur hk hc => hN.keep h.box h.r2 hl hc (by decide) (by decide) (Or.inl (by decide)))
  · intro i v hv
    by_cases hi : i < ls.length
    · rw [List.getElem?_append_left hi] at hv
      have hm := h.m2 i v hv
      refine hm.of_block (fun k hk => ?_)
      obtain ⟨cur, hc⟩ := hm.ty k hk
      exact hN.keep h.box h.r2 hl hc (by decide) (by decide) (Or.inr (hd v (List.mem_of_getElem? hv) k hk))
    · rw [List.getElem?_append_right (by omega)] at hv
      have h4 : i - ls.length < 4 := by have := (List.getElem?_eq_some_iff.1 hv).1; simpa using this
      have hiq : i / 4 = q := by omega
      unfold pt64
      rw [hiq]
      exact (hN.mks v (List.mem_of_getElem? hv)).1
  · intro i v hv
    have hm := h.m3 i v hv
    refine hm.of_block (fun k hk => ?_)
    obtain ⟨cur, hc⟩ := hm.ty k hk
    exact hN.keep h.box h.r2 hl hc (by decide) (by decide) (Or.inl (by decide))
theorem num_any {w : World} {bb B q : Nat} {la l2a : Option Addr} {lc l2c : Nat} {xs : List Int} {l3 wt rt : Value} {ls l3s : List Value} (h : BK w bb B (.slice l2a ls.length l2c) l3 wt rt ls l3s) (hq : ls.length = 4 * q) (hL : ls.length ≤ 100000) (hl : w.ownsRow B 2 1 (.slice la xs.length lc) xs.length (xs.map (Value.int .i64))) (hn : xs.length ≤ 4000) (hd : ∀ v ∈ ls, ∀ k, v.ownBlock = some k → some k ≠ (Value.slice la xs.length lc).ownBlock) :
    Calls Tryz.prog 58 #[.pointer (some ⟨bb, 0, none⟩), .slice la xs.length lc] w fun e W => e = .returned (.tuple #[]) ∧ ∃ l2a' l2c' ls', ls'.length = ls.length + 4 ∧ BK W bb B (.slice l2a' ls'.length l2c') l3 wt rt ls' l3s ∧ (∀ v ∈ ls', v ∈ ls ∨ v.ownBlock = (Value.slice la xs.length lc).ownBlock ∨ ∃ k, v.ownBlock = some k ∧ w.heap.size ≤ k) ∧ ((Value.slice l2a' ls'.length l2c').ownBlock = (Value.slice l2a ls.length l2c).ownBlock ∨ ∃ k, (Value.slice l2a' ls'.length l2c').ownBlock = some k ∧ w.heap.size ≤ k) ∧ Fr (fun k => k ≠ bb ∧ some k ≠ (Value.slice la xs.length lc).ownBlock ∧ some k ≠ (Value.slice l2a ls.length l2c).ownBlock) w W := by
  refine Calls.mono (numbers_any bb B q la l2a lc l2c xs l3 wt rt ls w h.box h.r2 hl h.base hn hL hq) ?_
  rintro e W ⟨rfl, l2a', l2c', x, y, z, hN⟩
  have hbk := h.num hq hl hN hd
  have hlen : (ls ++ [Value.slice la xs.length lc, x, y, z]).length = ls.length + 4 := by simp
  rw [← hlen] at hbk
  refine ⟨rfl, l2a', l2c', ls ++ [.slice la xs.length lc, x, y, z], hlen, hbk, ?_, ?_, hN.fr⟩
  · intro v hv
    rcases List.mem_append.1 hv with hv | hv
    · exact Or.inl hv
    · exact Or.inr (hN.mks v hv).2
  · rw [hlen]; exact hN.new
end Go.Proofs.YtmipbiligijcpaaGreatDoor
namespace Go.Proofs.YtmipbiligijcpaaGreatDoor
set_option linter.unusedVariables false
set_option linter.unusedSimpArgs false
open Go.RowKit Go.Proofs Go.Maps

theorem add000 (b k : Nat) : (⟨b, 0, none⟩ : Addr).add k = ⟨b, k, none⟩ := by unfold Addr.add; split <;> simp_all
/-- one list of the book, as it is read -/
theorem row_one {W : World} {B e n cap : Nat} {ao : Option Addr} {xs : List Value} (h : W.ownsRow B e 1 (.slice ao n cap) xs.length xs) {i : Nat} {v : Value} (hv : xs[i]? = some v) : ∃ g, ao = some ⟨g, 0, none⟩ ∧ W.cell? ⟨g, i, none⟩ = some v := by
  have hi := (List.getElem?_eq_some_iff.1 hv).1
  rcases h.2 with ⟨_, e⟩ | ⟨g, cap', cur, e, _⟩
  · omega
  · cases e
    have h1 := h.cells (g := g) rfl i v hv
    rw [add000] at h1
    exact ⟨g, rfl, h1⟩
theorem tdiv4 (k : Nat) : (k : Int).tdiv 4 = ((k / 4 : Nat) : Int) := by
  rw [Int.tdiv_eq_ediv_of_nonneg (by omega)]; omega
set_option maxHeartbeats 4000000 in
set_option maxRecDepth 100000 in
theorem large_any (bb B : Nat) (l2a l3a : Option Addr) (l2c l3c : Nat) (wt rt : Value) (ls l3s : List Value) (w : World) (hK : BK w bb B (.slice l2a ls.length l2c) (.slice l3a l3s.length l3c) wt rt ls l3s) (hL : l3s.length ≤ 100000) :
    Calls Tryz.prog 33 #[.pointer (some ⟨bb, 0, none⟩)] w fun e w' => e = .returned (.bool true) ∧ Below w.heap.size w w' := by
  have HH := (show Hid _ from hK)
  clear hK
  go_enter Tryz.func33, Tryz.ntmps33
  go_wp2_with fail
  go_loopw [3] (fun i wr => ∃ k : Nat, k ≤ l3s.length ∧ i = .int .i64 k ∧ Hid (Below w.heap.size w wr)) (fun i _ => l3s.length - (intOf i).toNat)
  case atStart => exact ⟨0, Nat.zero_le _, rfl, Below.refl _ _⟩
  case round =>
    obtain ⟨k, hk, rfl, HK⟩ := hrel
    obtain ⟨x1, x2⟩ := box_cells (HH.out.below HK.out).box
    simp only [bookCells] at x1
    by_cases hlt : k < l3s.length
    · have hlti : (k : Int) < (l3s.length : Int) := by omega
      go_wp2_with fail
      obtain ⟨v, hv⟩ : ∃ v, l3s[k]? = some v := ⟨_, List.getElem?_eq_getElem hlt⟩
      obtain ⟨ao, n, c, rfl, hmx, hfo⟩ := (HH.out.m3 k v hv).form
      have HV := (show Hid _ from hv)
      clear hv hmx hfo x1 x2
      go_loopw [4] (fun i wi => ∃ j : Nat, j ≤ n ∧ i = .int .i64 j ∧ Hid (Below w.heap.size w wi)) (fun i _ => n - (intOf i).toNat)
      case atStart => exact ⟨0, Nat.zero_le _, rfl, HK⟩
      case round =>
        obtain ⟨j, hj, rfl, HJ⟩ := hrel
        have hbk := HH.out.below HJ.out
        obtain ⟨y1, y2⟩ := box_cells hbk.box
        simp only [bookCells] at y1
        obtain ⟨g, rfl, c1⟩ := row_one hbk.r3 HV.out
        obtain ⟨ao', n', c', e0, hmx, hfo⟩ := (hbk.m3 k _ HV.out).form
        cases e0
        have hmx2 : n ≤ 9223372036854775807 := hmx
        clear hbk
        by_cases hjt : j < n
        · have hjti : (j : Int) < (n : Int) := by omega
          obtain ⟨b, rfl, d1⟩ := hfo j 0 _ hjt rfl
          obtain ⟨b', e1, d2⟩ := hfo j 1 _ hjt rfl
          cases e1
          simp only [List.length_cons, List.length_nil, Nat.zero_add, Nat.add_zero] at d1 d2
          have t1 := tdiv4 k
          have t2 : wrap64 ((k / 4 : Nat) : Int) = ((k / 4 : Nat) : Int) := by unfold wrap64; omega
          have t3 : wrap64 (-7 - ((k / 4 : Nat) : Int)) = -7 - ((k / 4 : Nat) : Int) := by unfold wrap64; omega
          have t4 : ((-7 - ((k / 4 : Nat) : Int)) != (-7 - ((k / 4 : Nat) : Int))) = false := by simp
          clear hfo
          go_wp2_with fail
          exact ⟨⟨j + 1, by omega, rfl, HJ⟩, by simp only [intOf]; omega⟩
        · have hjti : ¬ (j : Int) < (n : Int) := by omega
          go_wp2_with fail
          exact ⟨⟨k + 1, by omega, rfl, HJ⟩, by simp only [intOf]; omega⟩
    · have hlti : ¬ (k : Int) < (l3s.length : Int) := by omega
      go_wp2_with fail
      clear x1 x2
      go_loopw [5] (fun i wi => i = .int .i64 0 ∧ Hid (Below w.heap.size w wi)) (fun _ _ => 0)
      case atStart => exact ⟨rfl, HK⟩
      case round =>
        obtain ⟨rfl, HJ⟩ := hrel
        obtain ⟨y1, y2⟩ := box_cells (HH.out.below HJ.out).box
        simp only [bookCells] at y1
        go_wp2_with fail
        go_ret
        exact ⟨rfl, HJ.out⟩
set_option maxHeartbeats 4000000 in
set_option maxRecDepth 100000 in
theorem looks_any (bb B : Nat) (l2a l3a : Option Addr) (l2c l3c : Nat) (ls l3s : List Value) (w : World) (hK : BK w bb B (.slice l2a ls.length l2c) (.slice l3a l3s.length l3c) (.slice none 0 0) (.slice none 0 0) ls l3s) (hL2 : ls.length ≤ 100000) (hL : l3s.length ≤ 100000) :
    Calls Tryz.prog 12 #[.pointer (some ⟨bb, 0, none⟩)] w fun e w' => e = .returned (.bool true) ∧ Below w.heap.size w w' := by
  have HH := (show Hid _ from hK)
  clear hK
  go_enter Tryz.func12, Tryz.ntmps12
  go_wp2_with fail
  go_loopw [3] (fun i wi => i = .int .i64 0 ∧ Hid (Below w.heap.size w wi)) (fun _ _ => 0)
  case atStart => exact ⟨rfl, Below.refl _ _⟩
  case round =>
    obtain ⟨rfl, HZ⟩ := hrel
    obtain ⟨z1, z2⟩ := box_cells (HH.out.below HZ.out).box
    simp only [bookCells] at z1
    go_wp2_with fail
    clear z1 z2
    go_loopw [5] (fun i wr => ∃ k : Nat, k ≤ ls.length ∧ i = .int .i64 k ∧ Hid (Below w.heap.size w wr)) (fun i _ => ls.length - (intOf i).toNat)
    case atStart => exact ⟨0, Nat.zero_le _, rfl, HZ⟩
    case round =>
      obtain ⟨k, hk, rfl, HK⟩ := hrel
      obtain ⟨x1, x2⟩ := box_cells (HH.out.below HK.out).box
      simp only [bookCells] at x1
      by_cases hlt : k < ls.length
      · have hlti : (k : Int) < (ls.length : Int) := by omega
        go_wp2_with fail
        obtain ⟨v, hv⟩ : ∃ v, ls[k]? = some v := ⟨_, List.getElem?_eq_getElem hlt⟩
        obtain ⟨ao, n, c, rfl, hmx, hfo⟩ := (HH.out.m2 k v hv).form
        have HV := (show Hid _ from hv)
        clear hv hmx hfo x1 x2
        go_loopw [6] (fun i wi => ∃ j : Nat, j ≤ n ∧ i = .int .i64 j ∧ Hid (Below w.heap.size w wi)) (fun i _ => n - (intOf i).toNat)
        case atStart => exact ⟨0, Nat.zero_le _, rfl, HK⟩
        case round =>
          obtain ⟨j, hj, rfl, HJ⟩ := hrel
          have hbk := HH.out.below HJ.out
          obtain ⟨y1, y2⟩ := box_cells hbk.box
          simp only [bookCells] at y1
          obtain ⟨g, rfl, c1⟩ := row_one hbk.r2 HV.out
          obtain ⟨ao', n', c', e0, hmx, hfo⟩ := (hbk.m2 k _ HV.out).form
          cases e0
          have hmx2 : n ≤ 9223372036854775807 := hmx
          clear hbk
          by_cases hjt : j < n
          · have hjti : (j : Int) < (n : Int) := by omega
            obtain ⟨b, rfl, d1⟩ := hfo j 0 _ hjt rfl
            simp only [List.length_cons, List.length_nil, Nat.zero_add, Nat.add_zero, Nat.mul_one] at d1
            have t1 := tdiv4 k
            have t2 : wrap64 ((k / 4 : Nat) : Int) = ((k / 4 : Nat) : Int) := by unfold wrap64; omega
            have t3 : wrap64 (-7 - ((k / 4 : Nat) : Int)) = -7 - ((k / 4 : Nat) : Int) := by unfold wrap64; omega
            have t4 : ((-7 - ((k / 4 : Nat) : Int)) != (-7 - ((k / 4 : Nat) : Int))) = false := by simp
            clear hfo
            go_wp2_with fail
            exact ⟨⟨j + 1, by omega, rfl, HJ⟩, by simp only [intOf]; omega⟩
          · have hjti : ¬ (j : Int) < (n : Int) := by omega
            go_wp2_with fail
            exact ⟨⟨k + 1, by omega, rfl, HJ⟩, by simp only [intOf]; omega⟩
      · have hlti : ¬ (k : Int) < (ls.length : Int) := by omega
        go_wp2_with fail
        clear x1 x2
        go_loopw [7] (fun i wi => i = .int .i64 0 ∧ Hid (Below w.heap.size w wi)) (fun _ _ => 0)
        case atStart => exact ⟨rfl, HK⟩
        case round =>
          obtain ⟨rfl, HJ⟩ := hrel
          obtain ⟨y1, y2⟩ := box_cells (HH.out.below HJ.out).box
          simp only [bookCells] at y1
          go_wp2_with fail
          refine Calls.mono (large_any bb B l2a l3a l2c l3c _ _ ls l3s _ (HH.out.below HJ.out) hL) ?_
          rintro e W ⟨rfl, hb⟩
          go_wp2_with fail
          go_ret
          exact ⟨rfl, HJ.out.trans (hb.mono HJ.out.size)⟩
end Go.Proofs.YtmipbiligijcpaaGreatDoor
