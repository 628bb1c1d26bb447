/- A line cut into words; one that says nothing. -/
import Derived.Test.YtmipbiligijcpaaDoorW4
import Derived.Test.YtmipbiligijcpaaDoorL
namespace Go.Proofs.YtmipbiligijcpaaDoor
set_option linter.unusedVariables false
set_option linter.unusedSimpArgs false
open Go.RowKit Go.Proofs Go.Maps

/-- the words of a line -/
def wds (s : ByteArray) : List ByteArray := Lib.goFieldsP Wm.pblk s
theorem wds_eq (s : ByteArray) : (wds s).map (·.data.toList) = Wm.cutW [] s.data.toList := Wm.fields_eq s
theorem blank_pays (w : World) : PredAtRunes Tryd.prog 25 #[] Wm.pblk w := by
  intro W x hx hb
  refine (isBlank_any x W).mono fun e w' h => ?_
  refine ⟨h.1.trans (ret_bool ?_), 0, h.2⟩
  unfold Wm.pblk
  rw [Bool.eq_iff_iff]; simp; omega
theorem cutWords_any (s : ByteArray) (w : World) (hs : s.size ≤ 3000) :
    Calls Tryd.prog 13 #[.string s] w fun e w' => ∃ (g cap : Nat), e = .returned (.slice (some ⟨g, 0, none⟩) (wds s).length cap) ∧ w.heap.size ≤ g ∧ Ws w' g 0 (wds s) ∧ Below w.heap.size w w' := by
  have cF := Tryd.strings_FieldsFunc_runes 25 #[] (enters_of Tryd.func25 (by kernel_rfl) rfl) Wm.pblk s w (by omega) (blank_pays w)
  go_enter Tryd.func13, Tryd.ntmps13
  go_wp2_with fail
  refine cF.mono ?_
  rintro e w1 ⟨A, rfl, hA, hown, hb⟩
  go_wp2
  go_ret
  refine ⟨A, _, rfl, hA, ?_, hb⟩
  rcases hown.2 with ⟨h0, _⟩ | ⟨g, cap, cur, hv, _, hg, _, _, _, ht⟩
  · cases h0
  · cases hv
    exact ⟨cur, hg, by simpa [wds] using ht⟩
def saysNo (ws : List ByteArray) : Bool := match ws with | [] => true | x :: _ => match x.data.toList with | c :: _ => c == 35 | [] => false
theorem saysNothing_none (a : Option Addr) (cap : Nat) (w : World) :
    Calls Tryd.prog 14 #[.slice a 0 cap] w fun e w' => e = .returned (.bool true) ∧ w' = w := by
  go_enter Tryd.func14, Tryd.ntmps14
  go_wp2
  go_ret
  exact ⟨rfl, rfl⟩
theorem saysNothing_any (g off len cap : Nat) (x : ByteArray) (ws : List ByteArray) (w : World) (hl : ((len : Int) == 0) = false) (hx : 0 < x.size) (hm : x.size ≤ 3000) (hW : Ws w g off (x :: ws)) :
    Calls Tryd.prog 14 #[.slice (some ⟨g, off, none⟩) len cap] w fun e w' => e = .returned (.bool (saysNo (x :: ws))) ∧ w' = w := by
  have hc : w.cell? ⟨g, off, none⟩ = some (.string x) := hW.cell 0 x rfl
  have hl0 : (0 : Int) < (len : Int) := by rw [beq_eq_false_iff_ne] at hl; omega
  have e : saysNo (x :: ws) = ((x[0].toNat : Int) == 35) := by
    have := Wm.cons_data x hx
    simp only [saysNo]
    rw [this]
    simp only
    rw [Bool.eq_iff_iff]
    simp
    constructor
    · intro h; rw [h]; rfl
    · intro h; exact UInt8.toNat_inj.1 (by simpa using (by omega : x[0].toNat = 35))
  rw [e]
  go_enter Tryd.func14, Tryd.ntmps14
  go_wp2
  go_ret
  exact ⟨rfl, rfl⟩
end Go.Proofs.YtmipbiligijcpaaDoor
