/- Prints holds: for every text the program's Print and the document's answer alike (the law's own examples among them), and the text reads as it did. Conditions: none beyond the card's own (the listed package variables lie as the program's text lays them). -/
import Derived.Test.YtmipbiligijcpaaGreatDoorR24
import Derived.Test.YtmipbiligijcpaaGreatDoorV
import Derived.Test.YtmipbiligijcpaaGreatDoorQ0
import Derived.Test.YtmipbiligijcpaaGreatDoorCards
import Derived.Test.YtmipbiligijcpaaGreatDoorTie
import Derived.SevenTiedAt
namespace Go.Proofs.YtmipbiligijcpaaGreatDoor
set_option linter.unusedVariables false
set_option linter.unusedSimpArgs false
open Go.RowKit Go.Proofs Go.Maps

/-! ### the document's Print -/
theorem rprint_no (s : ByteArray) (w : World) (x : Int) (hx : (x == 0) = false) (hx2 : (x != 0) = true) (hP : Calls Tryz.prog 38 #[.string s] w fun e w' => e = .returned (.tuple #[.pointer none, .int .i64 x]) ∧ Below w.heap.size w w') :
    Calls Tryz.prog 25 #[.string s] w fun e w' => e = .returned (.tuple #[.string ⟨#[]⟩, .int .i64 x]) ∧ Below w.heap.size w w' := by
  go_enter Tryz.func25, Tryz.ntmps25
  go_wp2_with (go_at_call 38; refine hP.mono ?_; rintro e W1 ⟨rfl, hb1⟩)
  go_ret2
  exact ⟨rfl, hb1⟩
set_option maxHeartbeats 4000000 in
set_option maxRecDepth 100000 in
theorem rprint_ok (s : ByteArray) (pl : List PN) (vs : List Nam) (w : World) (hz : Psz pl) (h0 : 0 < pl.length) (hP : Calls Tryz.prog 38 #[.string s] w (RPAns w (Pr.ok pl vs))) :
    Calls Tryz.prog 25 #[.string s] w fun e w' => e = .returned (.tuple #[.string ⟨(prt pl).toArray⟩, .int .i64 0]) ∧ Below w.heap.size w w' := by
  go_enter Tryz.func25, Tryz.ntmps25
  go_wp2_with fail
  refine hP.mono ?_
  rintro e W1 ⟨hb1, pb, g, cap, va, vc, xv, cl, evs, ps, rfl, hpb, hbx, hg, hN, hR, hps, hx, hxl, hxe⟩
  have HBX : Hid (_ ∧ _ ∧ _) := ⟨hbx, hN, hR⟩
  obtain ⟨hx1, hx2⟩ := box_cells hbx
  clear hps hx hxl hxe hN hR hbx
  go_wp2_with fail
  go_loopw [6, 7] (fun o i wr => ∃ (k : Nat) (B : ByteArray), k ≤ pl.length ∧ i = .int .i64 k ∧ o = .string B ∧ Hid (B.data.toList = prt (pl.take k)) ∧ Hid (Below W1.heap.size W1 wr)) (fun _ i _ => pl.length - (intOf i).toNat)
  case atStart => exact ⟨0, ⟨#[]⟩, Nat.zero_le _, rfl, rfl, rfl, Below.refl _ _⟩
  case round =>
    obtain ⟨k, B, hk, rfl, rfl, HT, HB⟩ := hrel
    clear hx1 hx2
    have hbx' := (HB.out.block pb (Array.getElem?_eq_some_iff.1 HBX.out.1).1).trans HBX.out.1
    obtain ⟨hx1, hx2⟩ := box_cells hbx'
    have hBs : B.size ≤ 700000000 := by have h1 := hz.take_le k; rw [← HT.out, Wm.len_data] at h1; exact h1
    by_cases hlt : k < pl.length
    · have hlti : (k : Int) < (pl.length : Int) := by omega
      have hp60 := hz.len
      obtain ⟨p, hp⟩ : ∃ p, pl[k]? = some p := ⟨_, List.getElem?_eq_getElem hlt⟩
      obtain ⟨c, hc⟩ : ∃ c, cl[k]? = some c := ⟨_, List.getElem?_eq_getElem (by have := HBX.out.2.2.len; omega)⟩
      have hNr := HBX.out.2.1.of_block (HB.out.block g HBX.out.2.1.lt)
      obtain ⟨q0, q1, q2, q3, q4, q5, q6, q7, q8, q9, q10, q11, q12⟩ := hNr.all k c hc
      have hrep := (HBX.out.2.2.each k c p hc hp).mono (ws_below HB.out)
      obtain ⟨ga, oa, hwa, hWs⟩ := hrep.ws
      have hwl := hrep.wl
      have hlab := hrep.rel.lab
      have hWz := hz.ws p (List.mem_of_getElem? hp)
      have hLz := hz.lab p (List.mem_of_getElem? hp)
      have hwn := hWz.len
      have hgw : ga < wr.heap.size := hWs.lt
      have hgn : ga ≠ wr.heap.size := by omega
      have hgn' : wr.heap.size ≠ ga := by omega
      rw [hwa, hwl] at q0
      rw [hlab] at q1
      obtain ⟨mn, wa, wl, wc⟩ := c
      simp only at q0 q1 q2 q3 q4 q5 q6 q7 q8 q9 q10 q11 q12
      have HP : Hid (pl[k]? = some p) := hp
      have HWS : Hid (Ws wr ga oa p.ws) := hWs
      clear hp hc hNr hrep hwa hwl hlab hWs hbx'
      cases hem : p.lab.toList.isEmpty with
      | true =>
        have HL : Hid (lbl p.lab = []) := by show _ = _; unfold lbl; rw [hem]; rfl
        go_wp2_with fail
        generalize hWB : wr.alloc (.cells #[.slice (some ⟨ga, oa, none⟩) p.ws.length wc, .string p.lab, .string mn.does, .int .i64 mn.target, .int .i64 mn.a.var, .int .i64 mn.a.c, .string mn.a.word, .int .i64 mn.b.var, .int .i64 mn.b.c, .string mn.b.word, .int .i64 mn.ops, .string mn.sign, .string mn.goal] 111) = WB
        have HBB : Hid (Below W1.heap.size W1 WB ∧ Ws WB ga oa p.ws ∧ WB.heap[wr.heap.size]? = some (.cells #[.slice (some ⟨ga, oa, none⟩) p.ws.length wc, .string p.lab, .string mn.does, .int .i64 mn.target, .int .i64 mn.a.var, .int .i64 mn.a.c, .string mn.a.word, .int .i64 mn.b.var, .int .i64 mn.b.c, .string mn.b.word, .int .i64 mn.ops, .string mn.sign, .string mn.goal] 111 (0, 0))) := by
          subst hWB
          exact ⟨HB.out.alloc HB.out.size _, HWS.out.alloc _, heap_alloc_new _ _⟩
        clear hWB hx1 hx2 q0 q1 q2 q3 q4 q5 q6 q7 q8 q9 q10 q11 q12
        go_loopw [6, 9] (fun o i wx => ∃ (m : Nat) (C : ByteArray), m ≤ p.ws.length ∧ i = .int .i64 m ∧ o = .string C ∧ Hid (C.data.toList = prt (pl.take k) ++ lbl p.lab ++ jw (p.ws.take m)) ∧ Hid (Below WB.heap.size WB wx)) (fun _ i _ => p.ws.length - (intOf i).toNat)
        case atStart => exact ⟨0, _, Nat.zero_le _, rfl, rfl, (by show _ = _; rw [HL.out, HT.out]; simp [jw]), Below.refl _ _⟩
        case round =>
          obtain ⟨m, C, hm, rfl, rfl, HC, HBC⟩ := hrel
          have hbc := (HBC.out.block _ (Array.getElem?_eq_some_iff.1 HBB.out.2.2).1).trans HBB.out.2.2
          obtain ⟨y1, y2⟩ := box_cells hbc
          have hWc := ws_below HBC.out _ _ _ HBB.out.2.1
          have hCs : C.size ≤ 800000000 := by
            have h1 := lbl_le p.lab hLz
            have h2 := jw_le (p.ws.take m) (wsz_take hWz m)
            have h3 := hz.take_le k
            have h4 := congrArg List.length HC.out
            simp only [List.length_append, Wm.len_data] at h4
            omega
          clear hbc
          by_cases hml : m < p.ws.length
          · obtain ⟨x, hx⟩ : ∃ x, p.ws[m]? = some x := ⟨_, List.getElem?_eq_getElem hml⟩
            have hxc := hWc.cell m x hx
            have hxs := hWz.word x (List.mem_of_getElem? hx)
            have hmi : (m : Int) < (p.ws.length : Int) := by omega
            have HX : Hid (jw (p.ws.take (m + 1)) = jw (p.ws.take m) ++ (if m = 0 then [] else [32]) ++ x.data.toList) := jw_take p.ws m x hx
            clear hWc hx
            by_cases h0 : m = 0
            · subst h0
              rw [Nat.add_zero] at hxc
              go_wp2_with fail
              go_roundw
              case rel =>
                refine ⟨1, _, by omega, by go_num, rfl, ?_, HBC⟩
                show _ = _
                rw [HX.out]
                simp [HC.out]
              case measure => simp [intOf]; omega
            · have hm0 : decide (0 < (m : Int)) = true := by rw [decide_eq_true_eq]; omega
              go_wp2_with fail
              go_roundw
              case rel =>
                refine ⟨m + 1, _, by omega, by go_num, rfl, ?_, HBC⟩
                show _ = _
                rw [HX.out, if_neg h0]
                simp [HC.out]
              case measure => simp [intOf]; omega
          · obtain rfl : m = p.ws.length := by omega
            clear hWc
            go_wp2_with fail
            go_roundw
            case rel =>
              refine ⟨k + 1, _, by omega, by go_num, rfl, ?_, HBB.out.1.trans (HBC.out.mono HBB.out.1.size)⟩
              show _ = _
              rw [prt_take pl k p HP.out]
              have := HC.out
              rw [List.take_length] at this
              simp [this, lineOf]
            case measure => simp [intOf]; omega
      | false =>
        have HL : Hid (lbl p.lab = p.lab.data.toList ++ [58, 32]) := by show _ = _; unfold lbl; rw [hem]; rfl
        go_wp2_with fail
        generalize hWB : wr.alloc (.cells #[.slice (some ⟨ga, oa, none⟩) p.ws.length wc, .string p.lab, .string mn.does, .int .i64 mn.target, .int .i64 mn.a.var, .int .i64 mn.a.c, .string mn.a.word, .int .i64 mn.b.var, .int .i64 mn.b.c, .string mn.b.word, .int .i64 mn.ops, .string mn.sign, .string mn.goal] 111) = WB
        have HBB : Hid (Below W1.heap.size W1 WB ∧ Ws WB ga oa p.ws ∧ WB.heap[wr.heap.size]? = some (.cells #[.slice (some ⟨ga, oa, none⟩) p.ws.length wc, .string p.lab, .string mn.does, .int .i64 mn.target, .int .i64 mn.a.var, .int .i64 mn.a.c, .string mn.a.word, .int .i64 mn.b.var, .int .i64 mn.b.c, .string mn.b.word, .int .i64 mn.ops, .string mn.sign, .string mn.goal] 111 (0, 0))) := by
          subst hWB
          exact ⟨HB.out.alloc HB.out.size _, HWS.out.alloc _, heap_alloc_new _ _⟩
        clear hWB hx1 hx2 q0 q1 q2 q3 q4 q5 q6 q7 q8 q9 q10 q11 q12
        go_loopw [6, 9] (fun o i wx => ∃ (m : Nat) (C : ByteArray), m ≤ p.ws.length ∧ i = .int .i64 m ∧ o = .string C ∧ Hid (C.data.toList = prt (pl.take k) ++ lbl p.lab ++ jw (p.ws.take m)) ∧ Hid (Below WB.heap.size WB wx)) (fun _ i _ => p.ws.length - (intOf i).toNat)
        case atStart => exact ⟨0, _, Nat.zero_le _, rfl, rfl, (by show _ = _; rw [HL.out]; simp [jw, HT.out]), Below.refl _ _⟩
        case round =>
          obtain ⟨m, C, hm, rfl, rfl, HC, HBC⟩ := hrel
          have hbc := (HBC.out.block _ (Array.getElem?_eq_some_iff.1 HBB.out.2.2).1).trans HBB.out.2.2
          obtain ⟨y1, y2⟩ := box_cells hbc
          have hWc := ws_below HBC.out _ _ _ HBB.out.2.1
          have hCs : C.size ≤ 800000000 := by
            have h1 := lbl_le p.lab hLz
            have h2 := jw_le (p.ws.take m) (wsz_take hWz m)
            have h3 := hz.take_le k
            have h4 := congrArg List.length HC.out
            simp only [List.length_append, Wm.len_data] at h4
            omega
          clear hbc
          by_cases hml : m < p.ws.length
          · obtain ⟨x, hx⟩ : ∃ x, p.ws[m]? = some x := ⟨_, List.getElem?_eq_getElem hml⟩
            have hxc := hWc.cell m x hx
            have hxs := hWz.word x (List.mem_of_getElem? hx)
            have hmi : (m : Int) < (p.ws.length : Int) := by omega
            have HX : Hid (jw (p.ws.take (m + 1)) = jw (p.ws.take m) ++ (if m = 0 then [] else [32]) ++ x.data.toList) := jw_take p.ws m x hx
            clear hWc hx
            by_cases h0 : m = 0
            · subst h0
              rw [Nat.add_zero] at hxc
              go_wp2_with fail
              go_roundw
              case rel =>
                refine ⟨1, _, by omega, by go_num, rfl, ?_, HBC⟩
                show _ = _
                rw [HX.out]
                simp [HC.out]
              case measure => simp [intOf]; omega
            · have hm0 : decide (0 < (m : Int)) = true := by rw [decide_eq_true_eq]; omega
              go_wp2_with fail
              go_roundw
              case rel =>
                refine ⟨m + 1, _, by omega, by go_num, rfl, ?_, HBC⟩
                show _ = _
                rw [HX.out, if_neg h0]
                simp [HC.out]
              case measure => simp [intOf]; omega
          · obtain rfl : m = p.ws.length := by omega
            clear hWc
            go_wp2_with fail
            go_roundw
            case rel =>
              refine ⟨k + 1, _, by omega, by go_num, rfl, ?_, HBB.out.1.trans (HBC.out.mono HBB.out.1.size)⟩
              show _ = _
              rw [prt_take pl k p HP.out]
              have := HC.out
              rw [List.take_length] at this
              simp [this, lineOf]
            case measure => simp [intOf]; omega
    · obtain rfl : k = pl.length := by omega
      have hlti : ¬ ((pl.length : Int) < (pl.length : Int)) := by omega
      have HE : Hid (B = ⟨(prt pl).toArray⟩) := by
        show _ = _
        have := HT.out
        rw [List.take_length] at this
        exact data_inj (by rw [this])
      go_wp2_with fail
      go_ret2
      rw [HE.out]
      exact ⟨rfl, hb1.trans (HB.out.mono hb1.size)⟩

/-! ### Prints, out of the two printers -/
theorem prE_range (s : ByteArray) : prE s = 0 ∨ prE s = 1 ∨ prE s = 2 := by
  unfold prE; split <;> simp
theorem num_any (q : Int) (w : World) (h : q = 0 ∨ q = 1 ∨ q = 2) : Calls Tryz.prog 26 #[.int .i64 q] w fun e w' => e = .returned (.int .i64 q) ∧ w' = w := by
  rcases h with rfl | rfl | rfl
  all_goals
    go_enter Tryz.func26, Tryz.ntmps26
    go_wp2
    go_ret
    exact ⟨rfl, rfl⟩
set_option maxHeartbeats 1000000 in
set_option maxRecDepth 100000 in
theorem printed_any (s : ByteArray) (w : World) (hE : Env w) (hR : ∀ w', Calls Tryz.prog 25 #[.string s] w' fun e w'' => e = .returned (.tuple #[.string (prn s), .int .i64 (prE s)]) ∧ Below w'.heap.size w' w'') :
    Calls Tryz.prog 9 #[.string s] w fun e w' => e = .returned (.bool true) ∧ Below w.heap.size w w' := by
  have hW := wPrint_any s w hE
  have hq := prE_range s
  generalize prn s = p at hW hR
  generalize prE s = q at hW hR hq
  have HQ : Hid (q = 0 ∨ q = 1 ∨ q = 2) := hq
  clear hq
  have e1 : (p.toList == p.toList) = true := by simp
  have e2 : (q == q) = true := by simp
  go_enter Tryz.func9, Tryz.ntmps9
  go_wp2_with (first | (go_at_call 17; refine hW.mono ?_; rintro e W1 ⟨rfl, hb1⟩) | (go_at_call 25; refine (hR _).mono ?_; rintro e W2 ⟨rfl, hb2⟩) | (go_at_call 26; refine (num_any _ _ HQ.out).mono ?_; rintro e w' ⟨rfl, rfl⟩))
  go_ret
  exact ⟨rfl, hb1.trans (hb2.mono hb1.size)⟩
theorem cell_below {w w' : World} {k : Nat} {v : Value} (h : w.cell? ⟨k, 0, none⟩ = some v) (hb : Below w.heap.size w w') : w'.cell? ⟨k, 0, none⟩ = some v := by
  obtain ⟨c, t, f, hc⟩ := not_map_of_cell h
  have hl := (Array.getElem?_eq_some_iff.1 hc).1
  have h2 := hb.block k hl
  unfold World.cell? at h ⊢
  simp only at h ⊢
  rw [h2]
  exact h
theorem Env.later {w w' : World} (h : Env w) (hb : Below w.heap.size w w') : Env w' := by
  obtain ⟨⟨te, pe, hc⟩, m, hm⟩ := h
  exact ⟨⟨te, pe, cell_below hc hb⟩, m, cell_below hm hb⟩
set_option maxRecDepth 100000 in
theorem prints_walk (s : ByteArray) (w : World) (hE : Env w) (hR : ∀ s w', Calls Tryz.prog 25 #[.string s] w' fun e w'' => e = .returned (.tuple #[.string (prn s), .int .i64 (prE s)]) ∧ Below w'.heap.size w' w'') :
    Calls Tryz.prog 3 #[.string s] w fun e w' => e = .returned (.bool true) ∧ Below w.heap.size w w' := by
  have hP : ∀ x w, Env w → Calls Tryz.prog 9 #[.string x] w fun e w' => e = .returned (.bool true) ∧ Below w.heap.size w w' := fun x w h => printed_any x w h (hR x)
  clear hR
  have HP : Hid (∀ x w, Env w → Calls Tryz.prog 9 #[.string x] w fun e w' => e = .returned (.bool true) ∧ Below w.heap.size w w') := hP
  clear hP
  go_enter Tryz.func3, Tryz.ntmps3
  go_wp2_with fail
  refine (HP.out _ _ hE).mono ?_
  rintro e W1 ⟨rfl, hb1⟩
  have hE1 := hE.later hb1
  go_wp2_with fail
  refine (HP.out _ _ hE1).mono ?_
  rintro e W2 ⟨rfl, hb2⟩
  have hE2 := hE1.later hb2
  go_wp2_with fail
  refine (HP.out _ _ hE2).mono ?_
  rintro e W3 ⟨rfl, hb3⟩
  go_wp2_with fail
  go_ret
  exact ⟨rfl, (hb1.trans (hb2.mono hb1.size)).trans (hb3.mono (Nat.le_trans hb1.size hb2.size))⟩

/-! ### the card -/
theorem prints_wf : OpenClaim.wfByText (OpenSpec.ofChange Rows.printsSpec) Rows.printsRow = true := by kernel_rfl
theorem prints_main : Tryz.pinned.checked.prog.mainIs = some (Rows.printsCard.stood.harness.fst, Rows.printsCard.stood.harness.snd.toList) := by kernel_rfl
theorem prints_looks : true = Tryz.pinned.checked.prog.looks [] := by kernel_rfl
theorem prints_stands : ([9].all fun u => !Tryz.prog.wantsStandIn u) = true := by kernel_rfl
theorem prints_goes : false = Rows.printsRow.goesBy Tryz.pinned.checked.prog := by kernel_rfl
theorem prints_card (h : Rows.PrintsSaid) : Rows.PrintsCardSaid :=
  Claim7.holds_tied_plain_at .later [] [.data, .data, .data, .data, .sentinel, .sentinel, .pinned] true Rows.printsCard.stood.harness true
    h (fun _ h => by cases h) prints_wf (fun _ h => by cases h) prints_row_tie rfl ⟨rfl, rfl⟩ prints_main rfl
    (fun f fn hf hfn => by
      obtain rfl : f = 3 := Option.some.inj (prints_fn.symm.trans hf) |>.symm
      obtain rfl : fn = Tryz.f3 := (Option.some.inj (Tryz.func3.symm.trans hfn)).symm
      exact ⟨prints_looks, fun j t ht => by
        rw [Tryz.params3] at ht
        have hm : t ∈ [9] := by simpa using Array.mem_of_getElem? ht
        have hall : ([9].all fun u => !Tryz.prog.wantsStandIn u) = true := prints_stands
        exact (show Tryz.prog.wantsStandIn t = false by simpa using List.all_eq_true.1 hall t hm)⟩)
    prints_goes

theorem rPrint_any (s : ByteArray) (w : World) :
    Calls Tryz.prog 25 #[.string s] w fun e w' => e = .returned (.tuple #[.string (prn s), .int .i64 (prE s)]) ∧ Below w.heap.size w w' := by
  have hP := rparse_any s w
  rcases hr : prs s with b | ⟨pl, vs⟩
  · cases b with
    | false =>
      have e1 : prn s = ⟨#[]⟩ := by unfold prn; rw [hr]
      have e2 : prE s = 1 := by unfold prE; rw [hr]
      rw [hr] at hP
      rw [e1, e2]
      exact rprint_no s w 1 rfl rfl (hP.mono fun e w' h => ⟨h.2, h.1⟩)
    | true =>
      have e1 : prn s = ⟨#[]⟩ := by unfold prn; rw [hr]
      have e2 : prE s = 2 := by unfold prE; rw [hr]
      rw [hr] at hP
      rw [e1, e2]
      exact rprint_no s w 2 rfl rfl (hP.mono fun e w' h => ⟨h.2, h.1⟩)
  · obtain ⟨hz, h0, _⟩ := prs_ok hr
    have e1 : prn s = ⟨(prt pl).toArray⟩ := by unfold prn; rw [hr]
    have e2 : prE s = 0 := by unfold prE; rw [hr]
    rw [hr] at hP
    rw [e1, e2]
    exact rprint_ok s pl vs w hz h0 hP
theorem prints_holds : Rows.PrintsCardSaid := prints_card (prints_said (fun s w he hm => prints_walk s w ⟨he, hm⟩ rPrint_any))
end Go.Proofs.YtmipbiligijcpaaGreatDoor
