/- The program's Decode. -/
import Derived.Test.YtmipbiligijcpaaN15
import Derived.Test.YtmipbiligijcpaaH3
import Derived.Lib.Strings
import Derived.Lib.Slices
import Derived.Lib.Walk
namespace Go.Proofs.Ytmipbiligijcpaa
set_option linter.unusedVariables false
set_option linter.unusedSimpArgs false
open Go.RowKit Go.Proofs Go.Maps

set_option maxHeartbeats 1000000 in
theorem hasp_any (s p : ByteArray) (w : World) : Calls Try.prog 70 #[.string s, .string p] w fun e w' => e = .returned (.bool (Lib.hasPrefix s.data.toList p.data.toList)) ∧ w' = w := by
  rw [← Lib.hasPrefix_of_take, ← Lib.size_eq, ← Lib.size_eq]
  go_enter Try.func70, Try.ntmps70
  go_wp2
  · rename_i h
    go_ret
    refine ⟨?_, rfl⟩
    show Ending.returned (Value.bool ((s.extract 0 p.size).toList == p.toList)) = _
    rw [Lib.extract_toList, Lib.toList_data]
    simp [h]
  · rename_i h
    go_ret
    refine ⟨?_, rfl⟩
    show Ending.returned (Value.bool false) = _
    simp [h]
theorem hasp_size {s p : ByteArray} (h : Lib.hasPrefix s.data.toList p.data.toList = true) : p.size ≤ s.size := by
  rw [← Lib.hasPrefix_raw] at h
  simp only [Bool.and_eq_true, decide_eq_true_eq] at h
  exact h.1
set_option maxHeartbeats 1000000 in
theorem cutp_any (s p : ByteArray) (w : World) : Calls Try.prog 54 #[.string s, .string p] w fun e w' => e = .returned (.tuple #[.string (if Lib.hasPrefix s.data.toList p.data.toList = true then s.extract p.size s.size else s), .bool (Lib.hasPrefix s.data.toList p.data.toList)]) ∧ w' = w := by
  have hc := hasp_any s p w
  obtain ⟨b, hb⟩ : ∃ b, Lib.hasPrefix s.data.toList p.data.toList = b := ⟨_, rfl⟩
  rw [hb] at hc ⊢
  cases b with
  | true =>
    have hp := hasp_size hb
    have HC := (show Hid _ from hc)
    clear hc
    go_enter Try.func54, Try.ntmps54
    go_wp2_with (go_at_call 70; refine Calls.mono HC.out ?_; rintro e W1 ⟨rfl, rfl⟩)
    go_ret2
    exact ⟨rfl, rfl⟩
  | false =>
    have HC := (show Hid _ from hc)
    clear hc
    go_enter Try.func54, Try.ntmps54
    go_wp2_with (go_at_call 70; refine Calls.mono HC.out ?_; rintro e W1 ⟨rfl, rfl⟩)
    go_ret2
    exact ⟨rfl, rfl⟩
set_option maxHeartbeats 1000000 in
theorem cutp2_any (s p : ByteArray) (w : World) : Calls Try.prog 39 #[.string s, .string p] w fun e w' => e = .returned (.tuple #[.string (if Lib.hasPrefix s.data.toList p.data.toList = true then s.extract p.size s.size else s), .bool (Lib.hasPrefix s.data.toList p.data.toList)]) ∧ w' = w := by
  have hc := cutp_any s p w
  obtain ⟨b, hb⟩ : ∃ b, Lib.hasPrefix s.data.toList p.data.toList = b := ⟨_, rfl⟩
  rw [hb] at hc ⊢
  have HC := (show Hid _ from hc)
  clear hc
  cases b <;> (
    go_enter Try.func39, Try.ntmps39
    go_wp2_with (go_at_call 54; refine Calls.mono HC.out ?_; rintro e W1 ⟨rfl, rfl⟩)
    go_ret2
    exact ⟨rfl, rfl⟩)
def headS : ByteArray := ⟨#[87, 67, 1]⟩
theorem headS_yes {s : ByteArray} (h : Lib.hasPrefix s.data.toList headS.data.toList = true) : s.data.toList = [87, 67, 1] ++ (s.extract headS.size s.size).data.toList := by
  have hp := hasp_size h
  have h1 : s.data.toList.take 3 = [87, 67, 1] := by
    have := List.isPrefixOf_iff_prefix.1 (show [87, 67, 1].isPrefixOf s.data.toList = true from h)
    exact (List.prefix_iff_eq_take.1 this).symm
  have h2 : (s.extract headS.size s.size).data.toList = s.data.toList.drop 3 := by
    rw [← Lib.toList_data, Lib.extract_toList]
    exact List.take_of_length_le (by rw [List.length_drop]; exact Nat.le_refl _)
  rw [h2, ← h1, List.take_append_drop]
theorem headS_no {s : ByteArray} (h : Lib.hasPrefix s.data.toList headS.data.toList = false) : dec s.data.toList = none := by
  unfold dec
  split
  · rename_i r e
    rw [e] at h
    simp [Lib.hasPrefix, headS] at h
  · rfl
theorem dec_eq {s : ByteArray} {r : List UInt8} (h : s.data.toList = [87, 67, 1] ++ r) (hl : s.size ≤ 60000) : (∀ c, rcert r = some (c, []) → okC c = true → dec s.data.toList = some c) ∧ (∀ c, rcert r = some (c, []) → okC c = false → dec s.data.toList = none) ∧ (∀ c b q, rcert r = some (c, b :: q) → dec s.data.toList = none) ∧ (rcert r = none → dec s.data.toList = none) := by
  have h1 : s.data.toList.length = s.size := rfl
  rw [h] at h1 ⊢
  simp only [List.cons_append, List.nil_append] at h1 ⊢
  have hlen : (87 :: 67 :: 1 :: r).length ≤ 60000 := by omega
  refine ⟨fun c hc hk => ?_, fun c hc hk => ?_, fun c b q hc => ?_, fun hc => ?_⟩ <;> (unfold dec; simp only; rw [if_pos hlen, hc])
  · simp only; rw [if_pos hk]
  · simp only; rw [hk]; rfl
/-- a certificate read, whether it is good or bad -/
def CtK (W : World) (B : Nat) (l : List UInt8) (p g : Int) (la : Option Addr) (ll lc : Nat) (s' : ByteArray) (bb : Bool) : Prop :=
  (bb = false ∧ ∃ cl : List N5, rcert l = some (⟨p, g, cl.map N5.n⟩, s'.data.toList) ∧ ll = cl.length ∧ W.ownsRow B 50 5 (.slice la ll lc) ll (nRow cl) ∧ (∀ c ∈ cl, NvOk W B c) ∧ ApL cl) ∨ (bb = true ∧ rcert l = none)
theorem CtR.one {w W : World} {rb : Nat} {s : ByteArray} {e : Ending} (h : CtR w W rb s e) : ∃ (p g : Int) (la : Option Addr) (ll lc : Nat) (s' : ByteArray) (bb : Bool), e = .returned (.agg #[.int .i64 p, .int .i64 g, .slice la ll lc]) ∧ Rdr W rb s' bb ∧ CtK W w.heap.size s.data.toList p g la ll lc s' bb := by
  rcases h with ⟨c, cl, s', la, lc, e1, e2, e3, e4, e5, e6, e7⟩ | ⟨e1, p, g, la, ll, lc, s', e3, e7⟩
  · have hl : c.nodes.length = cl.length := by rw [e2]; simp
    obtain ⟨p, g, ns⟩ := c
    simp only at e2 e3 e4 hl
    subst e2
    rw [hl] at e3 e4
    exact ⟨p, g, la, cl.length, lc, s', false, e3, e7, Or.inl ⟨rfl, cl, e1, rfl, e4, e5, e6⟩⟩
  · exact ⟨p, g, la, ll, lc, s', true, e3, e7, Or.inr ⟨rfl, e1⟩⟩
/-- what Decode answers -/
def DcR (w W' : World) (s : ByteArray) (e : Ending) : Prop :=
  (∃ (c : Ct) (cl : List N5) (la : Option Addr) (lc : Nat), dec s.data.toList = some c ∧ c.nodes = cl.map N5.n ∧ e = .returned (.tuple #[.agg #[.int .i64 c.problem, .int .i64 c.grade, .slice la c.nodes.length lc], .int .i64 0]) ∧ W'.ownsRow w.heap.size 50 5 (.slice la c.nodes.length lc) c.nodes.length (nRow cl) ∧ (∀ c ∈ cl, NvOk W' w.heap.size c) ∧ ApL cl) ∨
  (dec s.data.toList = none ∧ e = .returned (.tuple #[.agg #[.int .i64 0, .int .i64 0, .slice none 0 0], .int .i64 5]))
set_option maxHeartbeats 1000000 in
set_option maxRecDepth 100000 in
theorem pdecode_any (s : ByteArray) (w : World) :
    Calls Try.prog 23 #[.string s] w fun e W' => DcR w W' s e ∧ Below w.heap.size w W' := by
  have hc := fun W => cutp2_any s headS W
  obtain ⟨b, hb⟩ : ∃ b, Lib.hasPrefix s.data.toList headS.data.toList = b := ⟨_, rfl⟩
  rw [hb] at hc
  have hc' : ∀ W, Calls Try.prog 39 #[.string s, .string ⟨#[87, 67, 1]⟩] W fun e w' => e = .returned (.tuple #[.string (if b = true then s.extract 3 s.size else s), .bool b]) ∧ w' = W := hc
  have HC := (show Hid _ from hc')
  clear hc hc'
  cases b with
  | false =>
    have hn := headS_no hb
    have HN := (show Hid _ from hn)
    clear hn
    go_enter Try.func23, Try.ntmps23
    go_wp2_with (go_at_call 39; refine Calls.mono (HC.out _) ?_; rintro e W1 ⟨rfl, rfl⟩)
    refine bodyPost_ret (v := .tuple #[.agg #[.int .i64 0, .int .i64 0, .slice none 0 0], .int .i64 5]) (by simp [results, Try.results23, go_sem]) rfl ?_
    exact ⟨Or.inr ⟨HN.out, rfl⟩, below1 _ _⟩
  | true =>
    have hy := headS_yes hb
    have HY := (show Hid _ from hy)
    clear hy
    by_cases hlen : s.size ≤ 60000
    · have hl2 : ¬ (60000 : Int) < (s.size : Int) := by omega
      have hd := dec_eq HY.out hlen
      have HD := (show Hid _ from hd)
      clear hd
      have hz : (s.extract 3 s.size).size ≤ 60000 := by
        have := congrArg List.length HY.out
        rw [List.length_append] at this
        have h1 : s.data.toList.length = s.size := rfl
        have h2 : (s.extract headS.size s.size).data.toList.length = (s.extract 3 s.size).size := rfl
        rw [h1, h2] at this
        omega
      go_enter Try.func23, Try.ntmps23
      go_upto_region 6 with (go_at_call 39; refine Calls.mono (HC.out _) ?_; rintro e W1 ⟨rfl, rfl⟩)
      obtain ⟨V0, hV0⟩ : ∃ V, V = ((w.alloc (.cells #[.int .i64 0, .int .i64 0, .slice none 0 0] 24)).alloc (.cells #[.string (s.extract 3 s.size), .bool false] 89)) := ⟨_, rfl⟩
      rw [← hV0]
      have hz0 : V0.heap.size = w.heap.size + 2 := by rw [hV0]; simp
      obtain ⟨m0, m1⟩ := alloc2 w (.cells #[.int .i64 0, .int .i64 0, .slice none 0 0] 24) (.cells #[.string (s.extract 3 s.size), .bool false] 89)
      rw [← hV0] at m0 m1
      have hb0 : Below w.heap.size w V0 := by rw [hV0]; exact below2 _ _ _
      refine (prcert_any (w.heap.size + 1) (s.extract 3 s.size) V0 m1 hz).mono ?_
      rintro e W2 ⟨h2, f2⟩
      have k0 := f2.box m0 (by show _ ≠ _; omega)
      have hz2 := f2.size
      have hb2 : Below w.heap.size w W2 := hb0.trans (f2.below (by omega) (fun k hk => by show k ≠ _; omega))
      clear hV0 m0 m1 hb0 f2
      obtain ⟨p, g, la, ll, lc, s', bb, rfl, hr, hk⟩ := h2.one
      have HX := (show Hid _ from And.intro hk (And.intro k0 (And.intro hr hb2)))
      clear h2 hk k0 hr hb2
      go_upto_region 6 with (fail)
      obtain ⟨V3, hV3⟩ : ∃ V, V = W2.alloc (.cells #[.int .i64 p, .int .i64 g, .slice la ll lc] 24) := ⟨_, rfl⟩
      rw [← hV3]
      have f3 : Fr (fun _ => True) W2 V3 := Fr.of_below (by rw [hV3]; exact below1 _ _)
      have m0 := f3.box HX.out.2.1 trivial
      have m1 := HX.out.2.2.1.fr f3 trivial
      have m2 : V3.heap[W2.heap.size]? = some (.cells #[.int .i64 p, .int .i64 g, .slice la ll lc] 24 (0, 0)) := by rw [hV3]; exact heap_alloc_new _ _
      have hz3 : V3.heap.size = W2.heap.size + 1 := by rw [hV3]; simp
      have hbl : Below w.heap.size w V3 := HX.out.2.2.2.trans (by rw [hV3]; exact (below1 W2 _).mono (by omega))
      have HV := (show Hid _ from And.intro m0 (And.intro m1 (And.intro m2 (And.intro f3 hbl))))
      obtain ⟨x1, x2⟩ := box_cells m0
      obtain ⟨y1, y2⟩ := box_cells m1
      obtain ⟨z1, z2⟩ := box_cells m2
      clear hV3 f3 m0 m1 m2 hbl
      cases bb with
      | true =>
        go_wp2_with fail
        refine bodyPost_ret (v := .tuple #[.agg #[.int .i64 0, .int .i64 0, .slice none 0 0], .int .i64 5]) (by simp [results, Try.results23, go_sem, x1]) rfl ?_
        have fa := fr3 V3 w.heap.size (.int .i64 0) (.int .i64 0) (.slice none 0 0)
        exact ⟨Or.inr ⟨HD.out.2.2.2 (by rcases HX.out.1 with ⟨h, _⟩ | ⟨_, h⟩; (cases h); exact h), rfl⟩, HV.out.2.2.2.2.trans (fa.below (by omega) (fun k hk => by show k ≠ _; omega))⟩
      | false =>
        by_cases h0 : s'.size = 0
        · have he : s' = ⟨#[]⟩ := data_inj (by have : s'.data.toList.length = 0 := h0; simpa using List.length_eq_zero_iff.1 this)
          subst he
          obtain ⟨cl, hrc, hll, hown, hnv, hap⟩ : ∃ cl : List N5, rcert (s.extract 3 s.size).data.toList = some (⟨p, g, cl.map N5.n⟩, []) ∧ ll = cl.length ∧ W2.ownsRow V0.heap.size 50 5 (.slice la ll lc) ll (nRow cl) ∧ (∀ c ∈ cl, NvOk W2 V0.heap.size c) ∧ ApL cl := by
            rcases HX.out.1 with ⟨_, h⟩ | ⟨h, _⟩
            · exact h
            · cases h
          subst hll
          have hin : CtIn ⟨p, g, cl.map N5.n⟩ := rcert_in (by show (s.extract 3 s.size).data.toList.length ≤ 60000; exact hz) hrc
          have hat : NodesAt V3 la (cl.map N5.n) := nodes_own (HV.out.2.2.2.1.own hown (fun _ _ => trivial)) (fun x hx => ((hnv x hx).fr HV.out.2.2.2.1 (fun _ _ => trivial) (Nat.le_refl _)).own)
          have hcall := isCert_any la lc ⟨p, g, cl.map N5.n⟩ V3 hat hin
          simp only [List.length_map] at hcall
          obtain ⟨ob, hO⟩ : ∃ ob, okC ⟨p, g, cl.map N5.n⟩ = ob := ⟨_, rfl⟩
          rw [hO] at hcall
          have HY2 := (show Hid _ from And.intro hcall (And.intro hrc (And.intro hown (And.intro hnv (And.intro hap hO)))))
          clear hcall hrc hown hnv hap hin hat h0
          cases ob with
          | true =>
            go_wp2_with fail
            refine Calls.mono HY2.out.1 ?_
            clear x1 x2 y1 y2 z1 z2
            rintro e W4 ⟨rfl, hb4⟩
            have f4 : Fr (fun _ => True) V3 W4 := Fr.of_below hb4
            obtain ⟨x1, x2⟩ := box_cells (f4.box HV.out.1 trivial)
            obtain ⟨z1, z2⟩ := box_cells (f4.box HV.out.2.2.1 trivial)
            have H4 := (show Hid _ from f4)
            clear f4 hb4
            go_wp2_with fail
            have hz4 := H4.out.size
            refine bodyPost_ret (v := .tuple #[.agg #[.int .i64 p, .int .i64 g, .slice la cl.length lc], .int .i64 0]) (by simp [results, Try.results23, go_sem, x1]) rfl ?_
            have fa := fr3 W4 w.heap.size (.int .i64 p) (.int .i64 g) (.slice la cl.length lc)
            have f5 : Fr (fun j => j ≠ w.heap.size) W2 _ := Fr.trans (Fr.trans (HV.out.2.2.2.1.mono (fun _ _ _ => trivial)) H4.out (fun _ _ _ => trivial)) fa (fun _ _ h => h)
            refine ⟨Or.inl ⟨⟨p, g, cl.map N5.n⟩, cl, la, lc, HD.out.1 _ HY2.out.2.1 HY2.out.2.2.2.2.2, rfl, by simp, ?_, fun c hc => (HY2.out.2.2.2.1 c hc).fr f5 (fun j hj => by show j ≠ _; omega) (by omega), HY2.out.2.2.2.2.1⟩, ?_⟩
            · simp only [List.length_map]
              exact own_mono (f5.own HY2.out.2.2.1 (fun k hk => by have := (HY2.out.2.2.1.lt k hk).1; show k ≠ _; omega)) (by omega)
            · exact (HV.out.2.2.2.2.trans (H4.out.below (by omega) (fun _ _ => trivial))).trans (fa.below (by omega) (fun k hk => by show k ≠ _; omega))
          | false =>
            go_wp2_with fail
            refine Calls.mono HY2.out.1 ?_
            clear x1 x2 y1 y2 z1 z2
            rintro e W4 ⟨rfl, hb4⟩
            have f4 : Fr (fun _ => True) V3 W4 := Fr.of_below hb4
            obtain ⟨x1, x2⟩ := box_cells (f4.box HV.out.1 trivial)
            obtain ⟨z1, z2⟩ := box_cells (f4.box HV.out.2.2.1 trivial)
            have H4 := (show Hid _ from f4)
            clear f4 hb4
            go_wp2_with fail
            have hz4 := H4.out.size
            refine bodyPost_ret (v := .tuple #[.agg #[.int .i64 0, .int .i64 0, .slice none 0 0], .int .i64 5]) (by simp [results, Try.results23, go_sem, x1]) rfl ?_
            have fa := fr3 W4 w.heap.size (.int .i64 0) (.int .i64 0) (.slice none 0 0)
            exact ⟨Or.inr ⟨HD.out.2.1 _ HY2.out.2.1 HY2.out.2.2.2.2.2, rfl⟩, (HV.out.2.2.2.2.trans (H4.out.below (by omega) (fun _ _ => trivial))).trans (fa.below (by omega) (fun k hk => by show k ≠ _; omega))⟩
        · have hne := str_ne (Nat.pos_of_ne_zero h0)
          go_wp2_with fail
          have hnone : dec s.data.toList = none := by
            rcases HX.out.1 with ⟨_, cl, h, _⟩ | ⟨h, _⟩
            · cases hq : s'.data.toList with
              | nil => exact absurd (show s'.size = 0 by rw [← str_len, hq]; rfl) h0
              | cons a q => rw [hq] at h; exact HD.out.2.2.1 _ _ _ h
            · cases h
          refine bodyPost_ret (v := .tuple #[.agg #[.int .i64 0, .int .i64 0, .slice none 0 0], .int .i64 5]) (by simp [results, Try.results23, go_sem, x1]) rfl ?_
          have fa := fr3 V3 w.heap.size (.int .i64 0) (.int .i64 0) (.slice none 0 0)
          exact ⟨Or.inr ⟨hnone, rfl⟩, HV.out.2.2.2.2.trans (fa.below (by omega) (fun k hk => by show k ≠ _; omega))⟩
    · have hl2 : (60000 : Int) < (s.size : Int) := by omega
      have hn : dec s.data.toList = none := by
        rw [HY.out]
        unfold dec
        simp only [List.cons_append, List.nil_append]
        rw [if_neg]
        intro h
        have := congrArg List.length HY.out
        simp only [List.length_append, List.length_cons, List.length_nil] at this h
        have h1 : s.data.toList.length = s.size := rfl
        omega
      have HN := (show Hid _ from hn)
      clear hn
      go_enter Try.func23, Try.ntmps23
      go_wp2_with (go_at_call 39; refine Calls.mono (HC.out _) ?_; rintro e W1 ⟨rfl, rfl⟩)
      refine bodyPost_ret (v := .tuple #[.agg #[.int .i64 0, .int .i64 0, .slice none 0 0], .int .i64 5]) (by simp [results, Try.results23, go_sem]) rfl ?_
      exact ⟨Or.inr ⟨HN.out, rfl⟩, below1 _ _⟩
end Go.Proofs.Ytmipbiligijcpaa
