/- Decodes: the walk. -/
import Derived.Test.YtncdjgnlleogbaaBI
namespace Go.Proofs.Ytncdjgnlleogbaa
set_option linter.unusedVariables false
set_option linter.unusedSimpArgs false
open Go.RowKit Go.Proofs Go.Maps

theorem BWn.start {w : World} : BWn (w.alloc (.cells (bookC (.slice none 0 0) (.slice none 0 0) (.slice none 0 0) (.slice none 0 0) (.slice none 0 0)) 34)) w.heap.size w.heap.size (.slice none ([] : List Ent).length 0) (.slice none ([] : List Ent).length 0) [] :=
  ⟨⟨heap_alloc_new _ _, World.ownsRow_nil _ _ _ _, World.ownsRow_nil _ _ _ _, Or.inl rfl, Nat.le_refl _⟩, (fun e he => by cases he), List.Pairwise.nil, (fun e he => by cases he), by simp⟩
set_option maxHeartbeats 4000000 in
set_option maxRecDepth 100000 in
theorem decodes_any (s : ByteArray) (w : World) :
    Calls Try.prog 4 #[.string s] w fun e w' => e = .returned (.bool true) ∧ Below w.heap.size w w' := by
  go_enter Try.func4, Try.ntmps4
  go_wp2_with fail
  obtain ⟨V0, hV0⟩ : ∃ V, V = w.alloc (.cells (bookC (.slice none 0 0) (.slice none 0 0) (.slice none 0 0) (.slice none 0 0) (.slice none 0 0)) 34) := ⟨_, rfl⟩
  have H0 : Hid (BWn V0 w.heap.size w.heap.size (.slice none ([] : List Ent).length 0) (.slice none ([] : List Ent).length 0) [] ∧ Below w.heap.size w V0) := by rw [hV0]; exact ⟨BWn.start, below1 _ _⟩
  have e0 : w.alloc (.cells #[.slice none 0 0, .slice none 0 0, .slice none 0 0, .slice none 0 0, .slice none 0 0, .slice none 0 0, .slice none 0 0, .slice none 0 0, .slice none 0 0] 34) = V0 := hV0.symm
  rw [e0]
  clear hV0 e0
  refine (decoded_any w.heap.size w.heap.size none none 0 0 [] ⟨#[87, 67, 1, 2, 2, 3, 0, 0, 0]⟩ V0 H0.out.1 (by simp)).mono ?_
  rintro e W1 ⟨rfl, b1, wa1, wk1, ra1, rk1, es1, hl1, h1⟩
  have hl1' : es1.length = 1 := by simpa using hl1
  have H1 : Hid (BWn W1 w.heap.size w.heap.size (.slice wa1 es1.length wk1) (.slice ra1 es1.length rk1) es1 ∧ Below w.heap.size w W1 ∧ es1.length = 1) := ⟨h1, H0.out.2.trans b1, hl1'⟩
  clear b1 h1 hl1 hl1'
  go_wp2_with fail
  refine (decoded_any w.heap.size w.heap.size wa1 ra1 wk1 rk1 es1 s W1 H1.out.1 (by have := H1.out.2.2; omega)).mono ?_
  rintro e W2 ⟨rfl, b2, wa2, wk2, ra2, rk2, es2, hl2, h2⟩
  have H2 : Hid (BWn W2 w.heap.size w.heap.size (.slice wa2 es2.length wk2) (.slice ra2 es2.length rk2) es2 ∧ Below w.heap.size w W2 ∧ es2.length = 2) := ⟨h2, H1.out.2.1.trans b2, by rw [hl2, H1.out.2.2]⟩
  clear b2 h2 hl2
  go_wp2_with fail
  refine (decoded_any w.heap.size w.heap.size wa2 ra2 wk2 rk2 es2 s W2 H2.out.1 (by have := H2.out.2.2; omega)).mono ?_
  rintro e W3 ⟨rfl, b3, wa3, wk3, ra3, rk3, es3, hl3, h3⟩
  have H3 : Hid (BWn W3 w.heap.size w.heap.size (.slice wa3 es3.length wk3) (.slice ra3 es3.length rk3) es3 ∧ Below w.heap.size w W3 ∧ es3.length = 3) := ⟨h3, H2.out.2.1.trans b3, by rw [hl3, H2.out.2.2]⟩
  clear b3 h3 hl3
  go_wp2_with fail
  refine (settle_any w.heap.size w.heap.size wa3 ra3 wk3 rk3 es3 W3 H3.out.1 (by have := H3.out.2.2; omega)).mono ?_
  rintro e W4 ⟨rfl, b4, l1a, l1c, l4a, l4c, l5a, l5c, s1, s4, s5, hbn, z1, z4, z5⟩
  have H4 : Hid (BN W4 w.heap.size w.heap.size (.slice l1a s1.length l1c) (.slice l4a s4.length l4c) (.slice l5a s5.length l5c) (.slice none 0 0) (.slice none 0 0) s1 s4 s5 ∧ Below w.heap.size w W4) := ⟨hbn, H3.out.2.1.trans b4⟩
  clear b4 hbn
  go_wp2_with fail
  refine (nlooks_any w.heap.size w.heap.size l1a l4a l5a l1c l4c l5c _ _ s1 s4 s5 W4 H4.out.1 (by omega) (by omega) (by omega)).mono ?_
  rintro e W5 ⟨rfl, b5⟩
  have H5 : Hid (Below w.heap.size w W5) := below_trans H4.out.2 b5
  clear b5
  go_wp2_with fail
  go_ret
  exact ⟨rfl, H5.out⟩
end Go.Proofs.Ytncdjgnlleogbaa
