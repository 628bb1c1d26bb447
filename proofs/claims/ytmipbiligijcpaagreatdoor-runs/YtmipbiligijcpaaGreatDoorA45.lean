/- A part of the proof: contracts of functions of the program. -/
import Derived.Test.YtmipbiligijcpaaGreatDoorA40
import Derived.Test.YtmipbiligijcpaaGreatDoorA44
namespace Go.Proofs.YtmipbiligijcpaaGreatDoor
set_option linter.unusedVariables false
set_option linter.unusedSimpArgs false
open Go.RowKit Go.Proofs Go.Maps

theorem bw_start (w : World) : BW (w.alloc (.cells (bookCells (.slice none 0 0) (.slice none 0 0) (.slice none 0 0) (.slice none 0 0)) 32)) w.heap.size w.heap.size (.slice none 0 0) (.slice none 0 0) [] :=
  ⟨heap_alloc_new w _, World.ownsRow_nil _ _ _ _, World.ownsRow_nil _ _ _ _, Or.inl rfl, by simp, List.Pairwise.nil, Nat.le_refl _⟩
theorem inl_two (w : World) (a b : Int) (k : Nat) (hk : k = w.heap.size) : InL (w.alloc (.cells #[.int .i64 a, .int .i64 b] 2)) (w.alloc (.cells #[.int .i64 a, .int .i64 b] 2)).heap.size (.slice (some ⟨k, 0, none⟩) [a, b].length 2) [a, b] := by
  subst hk
  refine ⟨_, 2, rfl, by simp, by decide, fun j x hj => ⟨w.heap.size, 0, rfl, by simp, ?_⟩⟩
  match j, hj with
  | 0, hj => simp at hj; subst hj; simp
  | 1, hj => simp at hj; subst hj; simp
set_option maxHeartbeats 4000000 in
set_option maxRecDepth 100000 in
theorem runs_any (s : ByteArray) (ins : List Int) (ia : Option Addr) (ic : Nat) (fuel : Int) (w : World) (hE : Env w) (hI : InL w w.heap.size (.slice ia ins.length ic) ins) (hn : (ins.length + 1) * 8 ≤ 140737488355328)
    (hD : ∀ (s : ByteArray) (fuel : Int) (ins : List Int) (ia : Option Addr) (ic : Nat) (w : World), InL w w.heap.size (.slice ia ins.length ic) ins → Calls Tryz.prog 27 #[.string s, .slice ia ins.length ic, .int .i64 fuel] w (DocAns w (runR s ins fuel))) :
    Calls Tryz.prog 4 #[.string s, .slice ia ins.length ic, .int .i64 fuel] w fun e W => e = .returned (.bool true) ∧ Below w.heap.size w W := by
  have HR : Hid (∀ (s : ByteArray) (ins : List Int) (ia : Option Addr) (ic : Nat) (fuel : Int) (wa ra : Option Addr) (wc rc : Nat) (T : List Trc) (W : World), Env W → InL W W.heap.size (.slice ia ins.length ic) ins → BW W w.heap.size w.heap.size (.slice wa T.length wc) (.slice ra T.length rc) T → T.length ≤ 10 → (ins.length + 1) * 8 ≤ 140737488355328 → Calls Tryz.prog 10 #[.pointer (some ⟨w.heap.size, 0, none⟩), .string s, .slice ia ins.length ic, .int .i64 fuel] W fun e W' => e = .returned (.bool true) ∧ Below w.heap.size W W' ∧ ∃ wa' wc' ra' rc' T', T'.length = T.length + 1 ∧ BW W' w.heap.size w.heap.size (.slice wa' T'.length wc') (.slice ra' T'.length rc') T') :=
    fun s ins ia ic fuel wa ra wc rc T W hE hI hW hT hn => ran_any _ _ wa ra ia wc rc ic T s ins fuel W hE hI hW hT hn (hD s fuel)
  clear hD
  have HH := (show Hid _ from And.intro hE (And.intro hI hn))
  clear hE hI hn
  have HS := (show Hid _ from bw_start w)
  have b1 : Below w.heap.size w ((w.alloc (.cells (bookCells (.slice none 0 0) (.slice none 0 0) (.slice none 0 0) (.slice none 0 0)) 32)).alloc (.cells #[.int .i64 3, .int .i64 12] 2)) := ((Below.refl _ _).alloc (Nat.le_refl _) _).alloc (by simp) _
  have b2 := ((Below.refl _ (w.alloc (.cells (bookCells (.slice none 0 0) (.slice none 0 0) (.slice none 0 0) (.slice none 0 0)) 32))).alloc (Nat.le_refl _) (.cells #[.int .i64 3, .int .i64 12] 2))
  have HB := (show Hid _ from And.intro b1 b2)
  clear b1 b2
  go_enter Tryz.func4, Tryz.ntmps4
  go_wp2_with fail
  refine Calls.mono (HR.out _ [3, 12] _ 2 9 none none 0 0 [] _ (HH.out.1.up HB.out.1) (inl_two _ 3 12 _ (by simp)) (HS.out.below HB.out.2) (by simp) (by simp)) ?_
  rintro e W3 ⟨rfl, k3, wa3, wc3, ra3, rc3, T3, l3, h3⟩
  have q3 := HB.out.1.trans k3
  have HB3 := (show Hid _ from And.intro q3 h3)
  clear q3 h3 k3
  go_wp2_with fail
  refine Calls.mono (HR.out s ins ia ic fuel wa3 ra3 wc3 rc3 T3 W3 (HH.out.1.up HB3.out.1) (inl_up HH.out.2.1 HB3.out.1) HB3.out.2 (by rw [l3]; simp) HH.out.2.2) ?_
  rintro e W4 ⟨rfl, k4, wa4, wc4, ra4, rc4, T4, l4, h4⟩
  have q4 := HB3.out.1.trans k4
  have HB4 := (show Hid _ from And.intro q4 h4)
  clear q4 h4 k4
  go_wp2_with fail
  refine Calls.mono (HR.out s ins ia ic fuel wa4 ra4 wc4 rc4 T4 W4 (HH.out.1.up HB4.out.1) (inl_up HH.out.2.1 HB4.out.1) HB4.out.2 (by rw [l4, l3]; simp) HH.out.2.2) ?_
  rintro e W5 ⟨rfl, k5, wa5, wc5, ra5, rc5, T5, l5, h5⟩
  have q5 := HB4.out.1.trans k5
  have HB5 := (show Hid _ from And.intro q5 h5)
  clear q5 h5 k5
  go_wp2_with fail
  refine Calls.mono (settle_any _ _ wa5 ra5 wc5 rc5 T5 W5 HB5.out.2 (by rw [l5, l4, l3]; simp)) ?_
  rintro e W6 ⟨rfl, k6, l2a, l2c, l3a, l3c, ls, l3s, h6, m1, m2⟩
  have q6 := HB5.out.1.trans k6
  have HB6 := (show Hid _ from And.intro q6 h6)
  clear q6 h6 k6
  go_wp2_with fail
  refine Calls.mono (looks_any _ _ l2a l3a l2c l3c ls l3s W6 HB6.out.2 (by omega) (by omega)) ?_
  rintro e W7 ⟨rfl, k7⟩
  have q7 := HB6.out.1.trans (k7.mono HB6.out.1.size)
  go_wp2_with fail
  go_ret
  exact ⟨rfl, q7⟩
end Go.Proofs.YtmipbiligijcpaaGreatDoor
