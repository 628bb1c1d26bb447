/- Decodes holds: for every text the program answers Decode as the document does, twice alike, and what came out is its owner's; the text reads as it did. Conditions: none beyond the row's own. -/
import Derived.Test.YtmipbiligijcpaaBI
import Derived.Test.YtmipbiligijcpaaRows
import Derived.ProofKit
import Derived.OpenShut
import Derived.ShutString
import Derived.ChangeOld
import Derived.Below
import Derived.Lay
import Derived.HandedShaped
import Derived.Shelf.Vars
import Derived.Lib.LaidU8
import Derived.MakeChecks
import Derived.SizedLaws
namespace Go.Proofs.Ytmipbiligijcpaa
set_option linter.unusedVariables false
set_option linter.unusedSimpArgs false
open Go.RowKit Go.Proofs Go.Maps

theorem BWn.start {w : World} : BWn (w.alloc (.cells (bookC (.slice none 0 0) (.slice none 0 0) (.slice none 0 0) (.slice none 0 0) (.slice none 0 0)) 34)) w.heap.size w.heap.size (.slice none ([] : List Ent).length 0) (.slice none ([] : List Ent).length 0) [] :=
  ⟨⟨heap_alloc_new _ _, World.ownsRow_nil _ _ _ _, World.ownsRow_nil _ _ _ _, Or.inl rfl, Nat.le_refl _⟩, (fun e he => by cases he), List.Pairwise.nil, (fun e he => by cases he), by simp⟩
set_option maxHeartbeats 4000000 in
set_option maxRecDepth 100000 in
theorem decodes_any (s : ByteArray) (w : World) :
    Calls Try.prog 4 #[.string s] w fun e w' => e = .returned (.bool true) ∧ Below w.heap.size w w' := by
  go_enter Try.func4, Try.ntmps4
  go_wp2_with fail
  obtain ⟨V0, hV0⟩ : ∃ V, V = w.alloc (.cells (bookC (.slice none 0 0) (.slice none 0 0) (.slice none 0 0) (.slice none 0 0) (.slice none 0 0)) 34) := ⟨_, rfl⟩
  have H0 : Hid (BWn V0 w.heap.size w.heap.size (.slice none ([] : List Ent).length 0) (.slice none ([] : List Ent).length 0) [] ∧ Below w.heap.size w V0) := by rw [hV0]; exact ⟨BWn.start, below1 _ _⟩
  have e0 : w.alloc (.cells #[.slice none 0 0, .slice none 0 0, .slice none 0 0, .slice none 0 0, .slice none 0 0, .slice none 0 0, .slice none 0 0, .slice none 0 0, .slice none 0 0] 34) = V0 := hV0.symm
  rw [e0]
  clear hV0 e0
  refine (decoded_any w.heap.size w.heap.size none none 0 0 [] ⟨#[87, 67, 1, 2, 2, 3, 0, 0, 0]⟩ V0 H0.out.1 (by simp)).mono ?_
  rintro e W1 ⟨rfl, b1, wa1, wk1, ra1, rk1, es1, hl1, h1⟩
  have hl1' : es1.length = 1 := by simpa using hl1
  have H1 : Hid (BWn W1 w.heap.size w.heap.size (.slice wa1 es1.length wk1) (.slice ra1 es1.length rk1) es1 ∧ Below w.heap.size w W1 ∧ es1.length = 1) := ⟨h1, H0.out.2.trans b1, hl1'⟩
  clear b1 h1 hl1 hl1'
  go_wp2_with fail
  refine (decoded_any w.heap.size w.heap.size wa1 ra1 wk1 rk1 es1 s W1 H1.out.1 (by have := H1.out.2.2; omega)).mono ?_
  rintro e W2 ⟨rfl, b2, wa2, wk2, ra2, rk2, es2, hl2, h2⟩
  have H2 : Hid (BWn W2 w.heap.size w.heap.size (.slice wa2 es2.length wk2) (.slice ra2 es2.length rk2) es2 ∧ Below w.heap.size w W2 ∧ es2.length = 2) := ⟨h2, H1.out.2.1.trans b2, by rw [hl2, H1.out.2.2]⟩
  clear b2 h2 hl2
  go_wp2_with fail
  refine (decoded_any w.heap.size w.heap.size wa2 ra2 wk2 rk2 es2 s W2 H2.out.1 (by have := H2.out.2.2; omega)).mono ?_
  rintro e W3 ⟨rfl, b3, wa3, wk3, ra3, rk3, es3, hl3, h3⟩
  have H3 : Hid (BWn W3 w.heap.size w.heap.size (.slice wa3 es3.length wk3) (.slice ra3 es3.length rk3) es3 ∧ Below w.heap.size w W3 ∧ es3.length = 3) := ⟨h3, H2.out.2.1.trans b3, by rw [hl3, H2.out.2.2]⟩
  clear b3 h3 hl3
  go_wp2_with fail
  refine (settle_any w.heap.size w.heap.size wa3 ra3 wk3 rk3 es3 W3 H3.out.1 (by have := H3.out.2.2; omega)).mono ?_
  rintro e W4 ⟨rfl, b4, l1a, l1c, l4a, l4c, l5a, l5c, s1, s4, s5, hbn, z1, z4, z5⟩
  have H4 : Hid (BN W4 w.heap.size w.heap.size (.slice l1a s1.length l1c) (.slice l4a s4.length l4c) (.slice l5a s5.length l5c) (.slice none 0 0) (.slice none 0 0) s1 s4 s5 ∧ Below w.heap.size w W4) := ⟨hbn, H3.out.2.1.trans b4⟩
  clear b4 hbn
  go_wp2_with fail
  refine (nlooks_any w.heap.size w.heap.size l1a l4a l5a l1c l4c l5c _ _ s1 s4 s5 W4 H4.out.1 (by omega) (by omega) (by omega)).mono ?_
  rintro e W5 ⟨rfl, b5⟩
  have H5 : Hid (Below w.heap.size w W5) := below_trans H4.out.2 b5
  clear b5
  go_wp2_with fail
  go_ret
  exact ⟨rfl, H5.out⟩
end Go.Proofs.Ytmipbiligijcpaa
namespace Go.Proofs.Ytmipbiligijcpaa
set_option linter.unusedVariables false
set_option linter.unusedSimpArgs false
open Go.ChangeShapes Go.WideShapes Go.ChangeAt Go.RowKit
open Go.ChangeMaps (open_string shut_string)

theorem rowOwn : ownKnob Try.prog.godebug = none := by kernel_rfl
/-- a wrap that hands the contract what is listed, the reach and the world's shape -/
theorem returns_sized {H : Type} {enc : TypeId × Value → H} {a : Assume} {C : Checked} {os : Os} {f : FuncId} {fn : Func} {s : ChangeSpec} {conds : List PathCond} {apart fresh handsOn again : Bool} {X : World → Array Value → Prop}
    (hX : ∀ (w w' : World) (args : Array Value), w.heap = w'.heap → X w args → X w' args)
    (own : ownKnob C.prog.godebug = none) (started : os.Started) (noInit : C.prog.inits.idxOf? f = none) (hfn : C.prog.funcs[f]? = some fn)
    (witness : ∃ (w : World) (tape : Tape) (i : Input), w.os = os ∧ (w.forCall tape i).Shaped C.prog ∧ i.vars = [] ∧ Input.okWide C.prog (w.forCall tape i) .any w.heap.size f i ∧
      ((s.pre enc C.prog fn conds apart (w.forCall tape i).memory i.args ∧ X (w.forCall tape i).memory i.args) ∧ sizedMet enc C.prog fn (OpenSpec.ofChange s) apart (w.forCall tape i).memory i.args) ∧ a.holds C.prog (lone (Frame.enter C.prog f i.args .normal) [] (w.forCall tape i)))
    (contract : ∀ (W : World) (base : Nat) (args : Array Value) (ds gs : List (DataW H)) (before : List MemPlace),
      (∀ (j : Nat) t v, fn.params[j]? = some t → args[j]? = some v → Value.okWide C.prog W .any base t v) →
      DataW.Whole enc C.prog fn.params.toList s.vars apart W args.toList ds gs before →
      X W args → (DataW.weightsEach C.prog (fn.params.toList ++ (OpenSpec.ofChange s).bare.plain.varTypes C.prog) (ds ++ gs)).all (· ≤ reachBytes) = true → W.ShapedOpen C.prog →
      Calls C.prog f args W fun e W' => ∃ v, e = .returned v ∧ s.post enc C.prog fn apart fresh handsOn again W args v W') :
    ReturnsInHanded a C os f .any (fun w args => (s.pre enc C.prog fn conds apart w args ∧ X w args) ∧ sizedMet enc C.prog fn (OpenSpec.ofChange s) apart w args) (s.post enc C.prog fn apart fresh handsOn again) := by
  refine returnsInHanded_of_calls own started noInit witness ?_
  intro w tape i _ hsh _ hok hpre _
  obtain ⟨_, _, _, fn', hfn', _, _, _, _, hval⟩ := hok
  have e : fn' = fn := Option.some.inj (hfn'.symm.trans hfn)
  subst e
  obtain ⟨⟨_, hx⟩, _, ds, gs, before, hw, hwt⟩ := hpre
  have hw' := DataW.Whole.of_heap (w' := w.forCall tape i) (by rfl) hw
  refine (contract (w.forCall tape i) w.heap.size i.args ds gs before hval hw' (hX _ _ _ (by rfl) hx) hwt hsh).mono fun e W' ⟨v, he, hp⟩ => ?_
  subst he
  exact ChangeSpec.post_blind hp
theorem rowLaid : laidOutB Try.prog = true := by kernel_rfl
set_option maxRecDepth 100000 in
theorem decodes_lifted (os : Os) (started : os.Started) (H : Type) (enc : TypeId × Value → H) :
    ReturnsInHanded {} Try.checked os 4 .any (fun w args => (Rows.decodesSpec.pre enc Try.prog Try.f4 [] false w args ∧ True) ∧ sizedMet enc Try.prog Try.f4 (OpenSpec.ofChange Rows.decodesSpec) false w args)
      (Rows.decodesSpec.post enc Try.prog Try.f4 false true false false) := by
  refine returns_sized (C := Try.checked) (X := fun _ _ => True) (fun _ _ _ _ h => h) rowOwn started (by kernel_rfl) Try.func4
    (ChangeSpec.witness_shaped (enc := enc) (C := Try.checked) (os := os) (X := fun _ _ => True) false (World.laidAll Try.prog os Rows.decodesRow.laid) #[.string ⟨#[]⟩] 8 (World.laidAll_os _ _ _)
      (World.shaped_of_ZipB (by kernel_rfl) (by kernel_rfl)) (by kernel_rfl) (by kernel_rfl) (by kernel_rfl)
      trivial) ?_
  intro W base args ds gs before hval0 hW hL hsz0 hsh
  have hval : ∀ (j : Nat) t v, Try.f4.params[j]? = some t → args[j]? = some v → Value.okWide Try.prog W .any base t v := hval0
  have hW' := hW
  have hsz : (DataW.weightsEach Try.prog (Try.f4.params.toList ++ (OpenSpec.ofChange Rows.decodesSpec).bare.plain.varTypes Try.prog) (ds ++ gs)).all (· ≤ reachBytes) = true := hsz0
  obtain ⟨p, q, hA0, hV, rfl, hfz, hnd⟩ := hW
  have hA : DataW.TrodAll enc Try.prog W 0 (fun _ => true) true Try.f4.params.toList args.toList ds p := hA0
  rw [Try.params4] at hA hval hsz
  obtain ⟨v0, d0, rfl, rfl, h0⟩ := trodAll_one hA
  obtain ⟨rfl, rfl⟩ := trodVars_none hV
  obtain ⟨a0, rfl, rfl, rfl, w0⟩ := open_string Try.underlying9 (hval 0 9 v0 rfl rfl) h0
  clear hA0 hval0
  simp only [List.append_nil] at hW'
  refine (decodes_any a0 W).mono fun e W' ⟨he, bel⟩ => ?_
  subst he
  exact ⟨_, rfl, _, _, _, [], _, [], hW', trodAll_mk1 (shut_bool Try.underlying4 _), trodAll_mk1 (shut_string Try.underlying9 w0), rfl, bel.frame _, fun h => by cases h⟩
theorem decodes_holds : Rows.DecodesSaid :=
  OpenClaim.holds_of_wide 4 Try.f4 rfl rfl rfl rfl rfl rfl rfl ⟨rfl, rfl, rfl, rfl, rfl⟩ rfl rfl rfl rfl rfl (by kernel_rfl) Try.func4 (by kernel_rfl)
    (of_decide_eq_true (by kernel_rfl)) (by unfold Func.isWrapper; first | (rw [if_pos (by decide +kernel)]; kernel_rfl) | (rw [if_neg (by decide +kernel)]; exact ⟨rfl, rfl⟩))
    (fun os started H enc _ => by
      have h := decodes_lifted os started H enc
      simp only [and_true] at h
      exact h)
end Go.Proofs.Ytmipbiligijcpaa
