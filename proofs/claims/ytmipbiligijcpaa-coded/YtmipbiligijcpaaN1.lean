/- The program's reader: bytes, flags. -/
import Derived.Test.YtmipbiligijcpaaB2
import Derived.Test.YtmipbiligijcpaaD1
import Derived.Test.YtmipbiligijcpaaD2
namespace Go.Proofs.Ytmipbiligijcpaa
set_option linter.unusedVariables false
set_option linter.unusedSimpArgs false
open Go.RowKit Go.Proofs Go.Maps

/-- block rb is a reader at these bytes -/
def Rdr (w : World) (rb : Nat) (s : ByteArray) (bad : Bool) : Prop := w.heap[rb]? = some (.cells #[.string s, .bool bad] 89 (0, 0))
theorem Rdr.grown {w w' : World} {rb : Nat} {s : ByteArray} {bad : Bool} {row : Option Nat} (h : Rdr w rb s bad) (hg : w.grownBy w' row) (hr : some rb ≠ row) : Rdr w' rb s bad := (hg.block rb (Array.getElem?_eq_some_iff.1 h).1 hr).trans h
theorem rd_set {w : World} {b o : Nat} {cs : Array Value} {t : TypeId} (h : w.heap[b]? = some (.cells cs t (0, 0))) (v : Value) : (w.setCell ⟨b, o, none⟩ v).heap[b]? = some (.cells (cs.setIfInBounds o v) t (0, 0)) := by
  simp [World.setCell, Array.getElem?_modify, h]
theorem str_ne {s : ByteArray} (h : 0 < s.size) : s.toList.isEmpty = false := by
  have hl : s.data.toList.length = s.size := rfl
  rw [ByteArray.toList_eq]
  cases hs : s.data.toList with
  | nil => rw [hs] at hl; simp at hl; omega
  | cons a r => rfl
set_option maxHeartbeats 1000000 in
theorem roctet_bad (rb : Nat) (s : ByteArray) (bad : Bool) (w : World) (h : Rdr w rb s bad) (hb : bad = true ∨ s.size = 0) :
    Calls Try.prog 55 #[.pointer (some ⟨rb, 0, none⟩)] w fun e w' => e = .returned (.int .u8 0) ∧ Rdr w' rb s true ∧ w.grownBy w' (some rb) := by
  obtain ⟨x1, x2⟩ := box_cells h
  have HR := (show Hid (Rdr w rb s bad) from h)
  clear h
  have hpost : Rdr (w.setCell ⟨rb, 1, none⟩ (.bool true)) rb s true ∧ w.grownBy (w.setCell ⟨rb, 1, none⟩ (.bool true)) (some rb) := ⟨rd_set HR.out _, grown_self _ _ _ _⟩
  have HP := (show Hid _ from hpost)
  clear hpost
  cases bad with
  | true =>
    go_enter Try.func55, Try.ntmps55
    go_wp2_with fail
    go_ret
    exact ⟨rfl, HP.out⟩
  | false =>
    have hs : s.size = 0 := by rcases hb with h | h; cases h; exact h
    have he : s = ⟨#[]⟩ := data_inj (by have : s.data.toList.length = 0 := hs; simpa using List.length_eq_zero_iff.1 this)
    subst he
    go_enter Try.func55, Try.ntmps55
    go_wp2_with fail
    go_ret
    exact ⟨rfl, HP.out⟩
set_option maxHeartbeats 1000000 in
theorem roctet_ok (rb : Nat) (s : ByteArray) (w : World) (h : Rdr w rb s false) (h0 : 0 < s.size) (hs : s.size ≤ 60000) :
    Calls Try.prog 55 #[.pointer (some ⟨rb, 0, none⟩)] w fun e w' => e = .returned (.int .u8 (s[0]).toNat) ∧ Rdr w' rb (s.extract 1 s.size) false ∧ w.grownBy w' (some rb) := by
  obtain ⟨x1, x2⟩ := box_cells h
  have HR := (show Hid (Rdr w rb s false) from h)
  clear h
  have hne := str_ne h0
  have hpost : Rdr (w.setCell ⟨rb, 0, none⟩ (.string (s.extract 1 s.size))) rb (s.extract 1 s.size) false ∧ w.grownBy (w.setCell ⟨rb, 0, none⟩ (.string (s.extract 1 s.size))) (some rb) := ⟨rd_set HR.out _, grown_self _ _ _ _⟩
  have HP := (show Hid _ from hpost)
  clear hpost
  go_enter Try.func55, Try.ntmps55
  go_wp2_with fail
  go_ret
  exact ⟨rfl, HP.out⟩
end Go.Proofs.Ytmipbiligijcpaa
