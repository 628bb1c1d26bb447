/- goto and if lines. -/
import Derived.Test.YtmipbiligijcpaaDoorW4
import Derived.Deep.RegionHeld3
import Derived.Deep.QuietTactic
import Derived.BigQuiet
namespace Go.Proofs.YtmipbiligijcpaaDoor
set_option linter.unusedVariables false
set_option linter.unusedSimpArgs false
open Go.RowKit Go.Proofs Go.Maps

set_option maxHeartbeats 400000 in
theorem readGoto_no (a : Option Addr) (len cap : Nat) (w : World) (h : ((len : Int) != 2) = true) (hl : len ≤ 3001) :
    Calls Tryd.prog 46 #[.slice a len cap] w fun e w' =>
      e = .returned (.tuple #[snV sn0, .bool false]) ∧ Below w.heap.size w w' := by
  go_enter Tryd.func46, Tryd.ntmps46
  go_wp2
  exact bodyPost_ret (v := .tuple #[snV sn0, .bool false]) (by simp [results, Tryd.results46, go_sem, snV, snCells, sn0, o0, emp, nilS]) rfl ⟨rfl, (Below.refl _ _).alloc (Nat.le_refl _) _⟩
set_option maxHeartbeats 400000 in
theorem readGoto_yes (g off cap : Nat) (w0 w1 : ByteArray) (w : World) (hs : w1.size ≤ 3000) (hW : Ws w g off [w0, w1]) :
    Calls Tryd.prog 46 #[.slice (some ⟨g, off, none⟩) 2 cap] w fun e w' =>
      e = .returned (.tuple #[snV ⟨5, 0, 0, 0, o0, o0, w1⟩, .bool (Wm.nm w1)]) ∧ Below w.heap.size w w' := by
  have hc := hW.cell 1 w1 rfl
  have hg := hW.lt
  have hm : w1.size ≤ maxLen := by unfold maxLen; omega
  have hne := World.new_ne w ⟨g, off + 1, none⟩ hc
  go_enter Tryd.func46, Tryd.ntmps46
  go_wp2
  go_region_held3 (fun w' => w'.cell? ⟨g, off + 1, none⟩ = some (.string w1)) (go_keep) ((go_at_call 27; refine (isName_any _ _ hm).mono ?_; rintro e w' ⟨rfl, rfl⟩))
  go_wp2
  exact bodyPost_ret (v := .tuple #[snV ⟨5, 0, 0, 0, o0, o0, w1⟩, .bool (Wm.nm w1)]) (by simp [results, Tryd.results46, go_sem, snV, snCells, o0, emp, nilS]) rfl ⟨rfl, ((Below.refl _ _).alloc (Nat.le_refl _) _).drew⟩

theorem kept_cells {w w' : World} {b mb : Nat} {cs : Array Value} {t : TypeId} (h : w.heap[b]? = some (.cells cs t (0, 0))) (hm : ∃ es c, w.heap[mb]? = some (.map es c)) (hg : w.grownBy w' (some mb)) : w'.heap[b]? = some (.cells cs t (0, 0)) := by
  refine (hg.block b (Array.getElem?_eq_some_iff.1 h).1 ?_).trans h
  simp only [ne_eq, Option.some.injEq]
  rintro rfl
  obtain ⟨es, c, e⟩ := hm
  rw [h] at e; cases e
theorem kept_alloc {w : World} {b : Nat} {cs : Array Value} {t : TypeId} (h : w.heap[b]? = some (.cells cs t (0, 0))) (o : Obj) : (w.alloc o).heap[b]? = some (.cells cs t (0, 0)) :=
  (Below.heap_alloc w o b (Array.getElem?_eq_some_iff.1 h).1).trans h

set_option maxHeartbeats 400000 in
theorem readIf_no (rb : Nat) (a : Option Addr) (len cap : Nat) (w : World) (h : ((len : Int) != 6) = true) (hl : len ≤ 3001) :
    Calls Tryd.prog 45 #[.pointer (some ⟨rb, 0, none⟩), .slice a len cap] w fun e w' =>
      e = .returned (.tuple #[snV sn0, .bool false]) ∧ Below w.heap.size w w' := by
  go_enter Tryd.func45, Tryd.ntmps45
  go_wp2
  exact bodyPost_ret (v := .tuple #[snV sn0, .bool false]) (by simp [results, Tryd.results45, go_sem, snV, snCells, sn0, o0, emp, nilS]) rfl ⟨rfl, (Below.refl _ _).alloc (Nat.le_refl _) _⟩
set_option maxHeartbeats 400000 in
theorem readIf_not (rb g off cap : Nat) (w0 w1 w2 w3 w4 w5 : ByteArray) (w : World) (hW : Ws w g off [w0, w1, w2, w3, w4, w5]) (h4 : (w4.toList == [103, 111, 116, 111]) = false) :
    Calls Tryd.prog 45 #[.pointer (some ⟨rb, 0, none⟩), .slice (some ⟨g, off, none⟩) 6 cap] w fun e w' =>
      e = .returned (.tuple #[snV sn0, .bool false]) ∧ Below w.heap.size w w' := by
  have hc := hW.cell 4 w4 rfl
  have hg := hW.lt
  go_enter Tryd.func45, Tryd.ntmps45
  go_wp2
  exact bodyPost_ret (v := .tuple #[snV sn0, .bool false]) (by simp [results, Tryd.results45, go_sem, snV, snCells, sn0, o0, emp, nilS]) rfl ⟨rfl, (Below.refl _ _).alloc (Nat.le_refl _) _⟩
end Go.Proofs.YtmipbiligijcpaaDoor
