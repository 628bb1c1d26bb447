/- A part of the proof: contracts of functions of the program. -/
import Derived.Test.YtmipbiligijcpaaGreatDoorA29
namespace Go.Proofs.YtmipbiligijcpaaGreatDoor
set_option linter.unusedVariables false
set_option linter.unusedSimpArgs false
open Go.RowKit Go.Proofs Go.Maps

theorem prs_syn {s : ByteArray} (h : rdl [] [] (lnW s) = none) : prs s = .syn := by
  unfold prs; rw [h]; split <;> rfl
theorem PS.lowf {w W W' : World} {s : ByteArray} {k : Nat} {nv : Value} {vs : List Nam} {vb : Option Nat} {acc : List PN} {cl : List RC} (h : PS w s k nv vs vb acc cl W) (hf : RF w.heap.size vb W W') : Below w.heap.size w W' := by
  refine ⟨hf.os.trans h.low.os, hf.tape.trans h.low.tape, hf.output.trans h.low.output, Nat.le_trans h.low.size hf.size, fun q hq => ?_⟩
  have h1 := h.low.size
  refine (hf.block q (by omega) (by omega) ?_).trans (h.low.block q hq)
  intro e
  have := (h.rp.vlt q e.symm).1
  omega
set_option maxHeartbeats 8000000 in
set_option maxRecDepth 100000 in
theorem rparse_try (s : ByteArray) (w : World) (hs : s.size ≤ 3000) :
    Calls Tryz.prog 38 #[.string s] w (RPAns w (prs s)) := by
  have h3 : decide (3000 < (s.size : Int)) = false := by rw [decide_eq_false_iff_not]; omega
  obtain ⟨i0, hi, hz0, hz1, hz2⟩ := info_parts infoRN
  have HI : Hid (Tryz.prog.info? 111 = some i0 ∧ i0.zero = some (.agg #[.slice none 0 0, .string ⟨#[]⟩, .string ⟨#[]⟩, .int .i64 0, .int .i64 0, .int .i64 0, .string ⟨#[]⟩, .int .i64 0, .int .i64 0, .string ⟨#[]⟩, .int .i64 0, .string ⟨#[]⟩, .string ⟨#[]⟩]) ∧ i0.size = 13 ∧ i0.bytes = 168) := ⟨hi, hz0, hz1, hz2⟩
  clear hi hz0 hz1 hz2
  go_enter Tryz.func38, Tryz.ntmps38
  go_wp2_with fail
  go_loopw [5, 6] (fun f i wr => ∃ (k fr : Nat) (na : Option Addr) (nl nc : Nat) (vs : List Nam) (vb : Option Nat) (acc : List PN) (cl : List RC) (rest : List ByteArray), k ≤ s.size + 1 ∧ fr ≤ k ∧ i = .int .i64 k ∧ f = .int .i64 fr ∧ Hid (InvL s k fr rest ∧ rdl [] [] (lnW s) = rdl vs acc (rest.map wds)) ∧ Hid (PS w s k (.slice na nl nc) vs vb acc cl wr)) (fun _ i _ => s.size + 1 - (intOf i).toNat)
  case atStart =>
    refine ⟨0, 0, none, 0, 0, [], none, [], [], lnB s, by omega, by omega, rfl, rfl, ⟨invL_start s, rfl⟩, ?_⟩
    refine ⟨⟨⟨.slice none 0 0, heap_alloc_new _ _, World.ownsRow_nil _ _ _ _, rfl⟩, List.nodup_nil⟩, World.ownsRow_nil _ _ _ _, ⟨rfl, fun j c p h => by simp at h⟩, by simp, (Below.refl _ _).alloc (Nat.le_refl _) _, by simp, by simp⟩
  case round =>
    obtain ⟨k, fr, na, nl, nc, vs, vb, acc, cl, rest, hk, hfr, rfl, rfl, HIv, HP⟩ := hrel
    by_cases hle : k ≤ s.size
    · have hlei : (k : Int) ≤ (s.size : Int) := by omega
      by_cases hnon : ∃ h : k < s.size, ((s[k].toNat : Int) == 10) = false
      · obtain ⟨hlt, hb⟩ := hnon
        have hlti : (k : Int) < (s.size : Int) := by omega
        have hb' : ((s[k].toNat : Int) != 10) = true := by simp only [bne, hb]; rfl
        have HV : Hid (InvL s (k + 1) fr rest) := invL_non s k fr rest hlt hfr hb HIv.out.1
        go_wp2_with fail
        exact ⟨⟨k + 1, fr, na, nl, nc, vs, vb, acc, cl, rest, by omega, by omega, by go_num, rfl, ⟨HV.out, HIv.out.2⟩, HP.out.next⟩, by simp [intOf]; omega⟩
      · have hsep : ∀ h : k < s.size, ((s[k].toNat : Int) == 10) = true := by
          intro h
          cases e : ((s[k].toNat : Int) == 10) with
          | true => rfl
          | false => exact absurd ⟨h, e⟩ hnon
        obtain ⟨rest', hre, hIv2⟩ := invL_sep s k fr rest hle hfr hsep HIv.out.1
        have HIv2 : Hid (InvL s (k + 1) (k + 1) rest' ∧ rdl [] [] (lnW s) = rdl vs acc (wds (s.extract fr k) :: rest'.map wds)) := ⟨hIv2, by rw [HIv.out.2, hre]; rfl⟩
        have hfi : (fr : Int) ≤ (k : Int) := by omega
        clear hre hIv2 HIv
        by_cases hend : k = s.size
        · have hlti : ¬ (k : Int) < (s.size : Int) := by omega
          have hdl : decide ((k : Int) < (s.size : Int)) = false := decide_eq_false hlti
          have hx3 : (s.extract fr k).size ≤ 3000 := by rw [ByteArray.size_extract]; omega
          clear hend
          go_wp2_with fail
          refine (rwords_any (s.extract fr k) _ hx3).mono ?_
          rintro e W2 ⟨v, rfl, hown, hb2⟩
          have HP2 : Hid (PS w s k (.slice na nl nc) vs vb acc cl W2) := HP.out.below hb2
          have hvA : ∀ q, vb = some q → q < wr.heap.size := fun q hq => (HP.out.rp.vlt q hq).2
          have hwz : w.heap.size < wr.heap.size := HP.out.rp.lt
          have HVA : Hid (∀ q, vb = some q → q < wr.heap.size) := hvA
          clear HP hvA
          obtain ⟨ws, hws⟩ : ∃ ws, wds (s.extract fr k) = ws := ⟨_, rfl⟩
          have hwsz : Wsz ws := hws ▸ wds_sz _ hx3
          have hpos : ∀ y ∈ ws, 0 < y.size := by rw [← hws]; exact fun y hy => (wds_size _ y hy).2
          rw [hws] at hown HIv2
          clear hws
          match ws, hwsz, hpos, HIv2, hown with
          | [], hwsz, hpos, HIv2, hown =>
            obtain ⟨a, c, rfl⟩ := sl_of_own hown
            go_wp2_with fail
            exact ⟨⟨k + 1, k + 1, na, nl, nc, vs, vb, acc, cl, rest', by omega, by omega, by go_num, by go_num, ⟨HIv2.out.1, HIv2.out.2⟩, HP2.out.next⟩, by simp [intOf]; omega⟩
          | w0 :: r, hwsz, hpos, HIv2, hown =>
            obtain ⟨A, cap, hv, hA, hcap, hcm, hWs⟩ := form_of_own hown
            subst hv
            have HW : Hid (Ws W2 A 0 (w0 :: r)) := hWs
            have hw0 := hpos w0 (by simp)
            have hw3 := hwsz.word w0 (by simp)
            have hc0 := hWs.cell 0 w0 rfl
            rw [Nat.add_zero] at hc0
            have hno := saysNo_int w0 r hw0
            clear hpos hWs
            have hl0 : (((r.length + 1 : Nat) : Int) == 0) = false := by rw [beq_eq_false_iff_ne]; omega
            have hl1 : (0 : Int) < ((r.length + 1 : Nat) : Int) := by omega
            cases h35 : ((w0[0].toNat : Int) == 35) with
            | true =>
              rw [h35] at hno
              have HNO : Hid (saysNo (w0 :: r) = true) := hno
              clear hno
              go_wp2_with fail
              exact ⟨⟨k + 1, k + 1, na, nl, nc, vs, vb, acc, cl, rest', by omega, by omega, by go_num, by go_num, ⟨HIv2.out.1, by rw [HIv2.out.2, rdl, HNO.out]; rfl⟩, HP2.out.next⟩, by simp [intOf]; omega⟩
            | false =>
              rw [h35] at hno
              have HNO : Hid (saysNo (w0 :: r) = false) := hno
              clear hno
              have hci := colB_int w0 hw0
              cases h58 : ((w0[w0.size - 1].toNat : Int) == 58) with
              | true =>
                rw [h58] at hci
                have HC : Hid (colB w0 = true) := hci
                clear hci
                have hlx : (w0.extract 0 (w0.size - 1)).size ≤ 3000 := by rw [ByteArray.size_extract]; omega
                have HLE : Hid (labD w0 = w0.extract 0 (w0.size - 1)) := labD_ext w0 hw0 HC.out
                have hcm' := hcm
                unfold maxLen at hcm'
                match r, hwsz, HIv2, hown, hcap, HW, HNO, hl0, hl1 with
                | [], hwsz, HIv2, hown, hcap, HW, HNO, hl0, hl1 =>
                  clear hown
                  go_wp2_with fail
                  refine (rname_any _ _ hlx).mono ?_
                  rintro e W2 ⟨rfl, rfl⟩
                  cases hnm : Wm.nm (w0.extract 0 (w0.size - 1)) with
                  | false =>
                    have HNo : Hid (prs s = Pr.syn) := prs_syn (by rw [HIv2.out.2]; exact rdl_no HNO.out (line_bad HC.out (by rw [HLE.out]; exact hnm)))
                    go_wp2_with fail
                    go_ret2
                    refine ⟨HP2.out.low, ?_⟩
                    rw [HNo.out]
                    exact rfl
                  | true =>
                    have HNo : Hid (prs s = Pr.syn) := prs_syn (by rw [HIv2.out.2]; exact rdl_no HNO.out ((line_lab HC.out (by rw [HLE.out]; exact hnm)).no rfl))
                    go_wp2_with fail
                    all_goals
                      refine (rst_0 w.heap.size (w.heap.size + 1) _ _ (.slice na nl nc) (.slice none 0 0) vs vb _ HP2.out.rp).mono ?_
                      rintro e W3 ⟨m, vb', vs', ok, rfl, HR, hP3, hf3, hn3⟩
                      cases ok with
                      | true => exact absurd HR.out (by simp [rst])
                      | false =>
                        have HB3 : Hid (Below w.heap.size w W3) := HP2.out.lowf hf3
                        simp only [rnCells]
                        clear hP3 hf3 hn3 HR
                        go_wp2_with fail
                        go_ret2
                        refine ⟨HB3.out.alloc HB3.out.size _, ?_⟩
                        rw [HNo.out]
                        exact rfl
                | x :: r', hwsz, HIv2, hown, hcap, HW, HNO, hl0, hl1 =>
                  clear hown
                  have i4 : ¬ cap = 1 := by simp at hcap; omega
                  go_wp2_with fail
                  refine (rname_any _ _ hlx).mono ?_
                  rintro e W2 ⟨rfl, rfl⟩
                  cases hnm : Wm.nm (w0.extract 0 (w0.size - 1)) with
                  | false =>
                    have HNo : Hid (prs s = Pr.syn) := prs_syn (by rw [HIv2.out.2]; exact rdl_no HNO.out (line_bad HC.out (by rw [HLE.out]; exact hnm)))
                    go_wp2_with fail
                    go_ret2
                    refine ⟨HP2.out.low, ?_⟩
                    rw [HNo.out]
                    exact rfl
                  | true =>
                    have HL : Hid (LineIs vs (w0 :: x :: r') (x :: r') (w0.extract 0 (w0.size - 1)) 1) := HLE.out ▸ line_lab HC.out (by rw [HLE.out]; exact hnm)
                    go_wp2_with fail
                    have hAv : some A ≠ vb := fun e => by have := HVA.out A e.symm; omega
                    have hW2z : w.heap.size + 1 ≤ W2.heap.size := by have := HP2.out.rp.lt; omega
                    refine (rst_any w.heap.size (w.heap.size + 1) A 1 (cap - 1) (.slice na nl nc) (.slice none 0 0) vs vb (x :: r') W2 hwsz.tail (by have := HP2.out.vlen; omega) hW2z (by omega) HP2.out.rp HW.out.tail hAv).mono ?_
                    rintro e W3 ⟨m, vb', vs', ok, rfl, HR, hP3, hf3, hn3⟩
                    cases ok with
                    | false =>
                      have HNo : Hid (prs s = Pr.syn) := prs_syn (by rw [HIv2.out.2]; exact rdl_no HNO.out (HL.out.no (by simpa using HR.out)))
                      have HB3 : Hid (Below w.heap.size w W3) := HP2.out.lowf hf3
                      simp only [rnCells]
                      clear hP3 hf3 hn3
                      go_wp2_with fail
                      go_ret2
                      refine ⟨HB3.out.alloc HB3.out.size _, ?_⟩
                      rw [HNo.out]
                      exact rfl
                    | true =>
                      have HR2 : Hid (rst vs (x :: r') = some (m, vs')) := by
                        show _ = _
                        simpa using HR.out
                      clear HR
                      have HY : Hid (vs'.length ≤ 3 * (k + 1)) := by
                        have h1 := lin_len vs (w0 :: x :: r')
                        have h2 := (HL.out.yes m vs' HR2.out).2.2.2.1
                        rw [h2] at h1
                        have := HP2.out.vlen
                        show _ ≤ _
                        omega
                      have HP3 : Hid (PS w s (k + 1) (.slice na nl nc) vs' vb' acc cl W3) := HP2.out.call hP3 hf3 hn3 HY.out
                      have HW3 : Hid (Ws W3 A 1 (x :: r')) := (HW.out.tail).rf HP2.out.rp hAv hf3
                      have HAv : Hid (some A ≠ vb') := hn3.ne HW.out.lt hAv
                      have hcl : cl.length ≤ k := HP2.out.clen
                      obtain ⟨vv, hbx, hov, hvb⟩ := HP3.out.rp.box
                      obtain ⟨hx1, hx2⟩ := box_cells hbx
                      have hBz : w.heap.size < W3.heap.size := HP3.out.rp.lt
                      have hBn : w.heap.size ≠ W3.heap.size := by omega
                      have hBn' : W3.heap.size ≠ w.heap.size := by omega
                      have HH := (show Hid _ from app_facts (.slice (some ⟨A, 1, none⟩) (r'.length + 1) (cap - 1)) { m with lab := w0.extract 0 (w0.size - 1) } rfl HP3.out)
                      have hlen1 : cl.length + 1 ≤ maxLen := by unfold maxLen; omega
                      have hlen2 : (cl.length + 1) * 168 ≤ 140737488355328 := by omega
                      clear hP3 hf3 hn3 hbx hov hvb
                      simp only [rnCells] at HH ⊢
                      go_wp2_with fail
                      go_region_law (refine step_own rfl (.tmp 86) (.tmp 88) 105 rfl (w.heap.size + 1) 111 i0 _ 13 168 Tryz.underlying105 HI.out.1 HI.out.2.1 HI.out.2.2.1 HI.out.2.2.2 rfl (by decide) (.slice na nl nc) cl.length (rrow cl) (by simp [Act.eval, Act.put]) HH.out.1 ⟨W3.heap.size + 1, 0, none⟩ 1 1 _ (by simp [Act.eval, Act.put]) rfl HH.out.2.1 HH.out.2.2.1 hlen1 hlen2 HH.out.2.2.2 ?_; intro v4 W4 hown4 hgrow4; have hg4 := grown_drew' hgrow4; clear hgrow4; obtain ⟨a4, c4, rfl⟩ := sl_of_own hown4; obtain ⟨vv4, hb4⟩ := HP3.out.kept hg4; obtain ⟨x41, x42⟩ := box_cells hb4)
                      all_goals
                        go_wp2_with fail
                        have hrc := relC_of (wa := some ⟨A, 1, none⟩) (wl := (r'.length + 1)) (wc := (cap - 1)) HL.out HR2.out
                        refine ⟨⟨k + 1, k + 1, a4, cl.length + 1, c4, vs', vb', acc ++ [pnOf vs (w0 :: x :: r')], cl ++ [⟨{ m with lab := w0.extract 0 (w0.size - 1) }, some ⟨A, 1, none⟩, (r'.length + 1), (cap - 1)⟩], rest', by omega, by omega, by go_num, by go_num, ⟨HIv2.out.1, by rw [HIv2.out.2, rdl_yes HNO.out HL.out HR2.out]⟩, ?_⟩, by simp [intOf]; omega⟩
                        exact PS.add (HP3.out.below (((Below.refl _ _).alloc (Nat.le_refl _) _).alloc (by simp) _)) hg4 (by rw [List.length_append, rrow_snoc]; exact hown4) ⟨hrc.1, ⟨A, 1, rfl, by rw [hrc.2]; exact (HW3.out.alloc _).alloc _⟩, by rw [hrc.2]; rfl⟩ (fun a ha => by cases ha; exact HAv.out) (by omega)
              | false =>
                rw [h58] at hci
                have HC : Hid (colB w0 = false) := hci
                clear hci
                have HL : Hid (LineIs vs (w0 :: r) (w0 :: r) emp 0) := line_plain HC.out
                go_wp2_with fail
                have hAv : some A ≠ vb := fun e => by have := HVA.out A e.symm; omega
                have hW2z : w.heap.size + 1 ≤ W2.heap.size := by have := HP2.out.rp.lt; omega
                refine (rst_any w.heap.size (w.heap.size + 1) A 0 cap (.slice na nl nc) (.slice none 0 0) vs vb (w0 :: r) W2 hwsz (by have := HP2.out.vlen; omega) hW2z (by omega) HP2.out.rp HW.out hAv).mono ?_
                rintro e W3 ⟨m, vb', vs', ok, rfl, HR, hP3, hf3, hn3⟩
                cases ok with
                | false =>
                  have HNo : Hid (prs s = Pr.syn) := prs_syn (by rw [HIv2.out.2]; exact rdl_no HNO.out (HL.out.no (by simpa using HR.out)))
                  have HB3 : Hid (Below w.heap.size w W3) := HP2.out.lowf hf3
                  simp only [rnCells]
                  clear hP3 hf3 hn3
                  go_wp2_with fail
                  go_ret2
                  refine ⟨HB3.out.alloc HB3.out.size _, ?_⟩
                  rw [HNo.out]
                  exact rfl
                | true =>
                  have HR2 : Hid (rst vs (w0 :: r) = some (m, vs')) := by
                    show _ = _
                    simpa using HR.out
                  clear HR
                  have HY : Hid (vs'.length ≤ 3 * (k + 1)) := by
                    have h1 := lin_len vs (w0 :: r)
                    have h2 := (HL.out.yes m vs' HR2.out).2.2.2.1
                    rw [h2] at h1
                    have := HP2.out.vlen
                    show _ ≤ _
                    omega
                  have HP3 : Hid (PS w s (k + 1) (.slice na nl nc) vs' vb' acc cl W3) := HP2.out.call hP3 hf3 hn3 HY.out
                  have HW3 : Hid (Ws W3 A 0 (w0 :: r)) := (HW.out).rf HP2.out.rp hAv hf3
                  have HAv : Hid (some A ≠ vb') := hn3.ne HW.out.lt hAv
                  have hcl : cl.length ≤ k := HP2.out.clen
                  obtain ⟨vv, hbx, hov, hvb⟩ := HP3.out.rp.box
                  obtain ⟨hx1, hx2⟩ := box_cells hbx
                  have hBz : w.heap.size < W3.heap.size := HP3.out.rp.lt
                  have hBn : w.heap.size ≠ W3.heap.size := by omega
                  have hBn' : W3.heap.size ≠ w.heap.size := by omega
                  have HH := (show Hid _ from app_facts (.slice (some ⟨A, 0, none⟩) (r.length + 1) cap) { m with lab := emp } rfl HP3.out)
                  have hlen1 : cl.length + 1 ≤ maxLen := by unfold maxLen; omega
                  have hlen2 : (cl.length + 1) * 168 ≤ 140737488355328 := by omega
                  clear hP3 hf3 hn3 hbx hov hvb
                  simp only [rnCells] at HH ⊢
                  go_wp2_with fail
                  go_region_law (refine step_own rfl (.tmp 86) (.tmp 88) 105 rfl (w.heap.size + 1) 111 i0 _ 13 168 Tryz.underlying105 HI.out.1 HI.out.2.1 HI.out.2.2.1 HI.out.2.2.2 rfl (by decide) (.slice na nl nc) cl.length (rrow cl) (by simp [Act.eval, Act.put]) HH.out.1 ⟨W3.heap.size + 1, 0, none⟩ 1 1 _ (by simp [Act.eval, Act.put]) rfl HH.out.2.1 HH.out.2.2.1 hlen1 hlen2 HH.out.2.2.2 ?_; intro v4 W4 hown4 hgrow4; have hg4 := grown_drew' hgrow4; clear hgrow4; obtain ⟨a4, c4, rfl⟩ := sl_of_own hown4; obtain ⟨vv4, hb4⟩ := HP3.out.kept hg4; obtain ⟨x41, x42⟩ := box_cells hb4)
                  all_goals
                    go_wp2_with fail
                    have hrc := relC_of (wa := some ⟨A, 0, none⟩) (wl := (r.length + 1)) (wc := cap) HL.out HR2.out
                    refine ⟨⟨k + 1, k + 1, a4, cl.length + 1, c4, vs', vb', acc ++ [pnOf vs (w0 :: r)], cl ++ [⟨{ m with lab := emp }, some ⟨A, 0, none⟩, (r.length + 1), cap⟩], rest', by omega, by omega, by go_num, by go_num, ⟨HIv2.out.1, by rw [HIv2.out.2, rdl_yes HNO.out HL.out HR2.out]⟩, ?_⟩, by simp [intOf]; omega⟩
                    exact PS.add (HP3.out.below (((Below.refl _ _).alloc (Nat.le_refl _) _).alloc (by simp) _)) hg4 (by rw [List.length_append, rrow_snoc]; exact hown4) ⟨hrc.1, ⟨A, 0, rfl, by rw [hrc.2]; exact (HW3.out.alloc _).alloc _⟩, by rw [hrc.2]; rfl⟩ (fun a ha => by cases ha; exact HAv.out) (by omega)
        · have hlt : k < s.size := by omega
          have hb := hsep hlt
          have hlti : (k : Int) < (s.size : Int) := by omega
          have hb' : ((s[k].toNat : Int) != 10) = false := by simp only [bne, hb]; rfl
          have hx3 : (s.extract fr k).size ≤ 3000 := by rw [ByteArray.size_extract]; omega
          go_wp2_with fail
          refine (rwords_any (s.extract fr k) _ hx3).mono ?_
          rintro e W2 ⟨v, rfl, hown, hb2⟩
          have HP2 : Hid (PS w s k (.slice na nl nc) vs vb acc cl W2) := HP.out.below hb2
          have hvA : ∀ q, vb = some q → q < wr.heap.size := fun q hq => (HP.out.rp.vlt q hq).2
          have hwz : w.heap.size < wr.heap.size := HP.out.rp.lt
          have HVA : Hid (∀ q, vb = some q → q < wr.heap.size) := hvA
          clear HP hvA
          obtain ⟨ws, hws⟩ : ∃ ws, wds (s.extract fr k) = ws := ⟨_, rfl⟩
          have hwsz : Wsz ws := hws ▸ wds_sz _ hx3
          have hpos : ∀ y ∈ ws, 0 < y.size := by rw [← hws]; exact fun y hy => (wds_size _ y hy).2
          rw [hws] at hown HIv2
          clear hws
          match ws, hwsz, hpos, HIv2, hown with
          | [], hwsz, hpos, HIv2, hown =>
            obtain ⟨a, c, rfl⟩ := sl_of_own hown
            go_wp2_with fail
            exact ⟨⟨k + 1, k + 1, na, nl, nc, vs, vb, acc, cl, rest', by omega, by omega, by go_num, by go_num, ⟨HIv2.out.1, HIv2.out.2⟩, HP2.out.next⟩, by simp [intOf]; omega⟩
          | w0 :: r, hwsz, hpos, HIv2, hown =>
            obtain ⟨A, cap, hv, hA, hcap, hcm, hWs⟩ := form_of_own hown
            subst hv
            have HW : Hid (Ws W2 A 0 (w0 :: r)) := hWs
            have hw0 := hpos w0 (by simp)
            have hw3 := hwsz.word w0 (by simp)
            have hc0 := hWs.cell 0 w0 rfl
            rw [Nat.add_zero] at hc0
            have hno := saysNo_int w0 r hw0
            clear hpos hWs
            have hl0 : (((r.length + 1 : Nat) : Int) == 0) = false := by rw [beq_eq_false_iff_ne]; omega
            have hl1 : (0 : Int) < ((r.length + 1 : Nat) : Int) := by omega
            cases h35 : ((w0[0].toNat : Int) == 35) with
            | true =>
              rw [h35] at hno
              have HNO : Hid (saysNo (w0 :: r) = true) := hno
              clear hno
              go_wp2_with fail
              exact ⟨⟨k + 1, k + 1, na, nl, nc, vs, vb, acc, cl, rest', by omega, by omega, by go_num, by go_num, ⟨HIv2.out.1, by rw [HIv2.out.2, rdl, HNO.out]; rfl⟩, HP2.out.next⟩, by simp [intOf]; omega⟩
            | false =>
              rw [h35] at hno
              have HNO : Hid (saysNo (w0 :: r) = false) := hno
              clear hno
              have hci := colB_int w0 hw0
              cases h58 : ((w0[w0.size - 1].toNat : Int) == 58) with
              | true =>
                rw [h58] at hci
                have HC : Hid (colB w0 = true) := hci
                clear hci
                have hlx : (w0.extract 0 (w0.size - 1)).size ≤ 3000 := by rw [ByteArray.size_extract]; omega
                have HLE : Hid (labD w0 = w0.extract 0 (w0.size - 1)) := labD_ext w0 hw0 HC.out
                have hcm' := hcm
                unfold maxLen at hcm'
                match r, hwsz, HIv2, hown, hcap, HW, HNO, hl0, hl1 with
                | [], hwsz, HIv2, hown, hcap, HW, HNO, hl0, hl1 =>
                  clear hown
                  go_wp2_with fail
                  refine (rname_any _ _ hlx).mono ?_
                  rintro e W2 ⟨rfl, rfl⟩
                  cases hnm : Wm.nm (w0.extract 0 (w0.size - 1)) with
                  | false =>
                    have HNo : Hid (prs s = Pr.syn) := prs_syn (by rw [HIv2.out.2]; exact rdl_no HNO.out (line_bad HC.out (by rw [HLE.out]; exact hnm)))
                    go_wp2_with fail
                    go_ret2
                    refine ⟨HP2.out.low, ?_⟩
                    rw [HNo.out]
                    exact rfl
                  | true =>
                    have HNo : Hid (prs s = Pr.syn) := prs_syn (by rw [HIv2.out.2]; exact rdl_no HNO.out ((line_lab HC.out (by rw [HLE.out]; exact hnm)).no rfl))
                    go_wp2_with fail
                    all_goals
                      refine (rst_0 w.heap.size (w.heap.size + 1) _ _ (.slice na nl nc) (.slice none 0 0) vs vb _ HP2.out.rp).mono ?_
                      rintro e W3 ⟨m, vb', vs', ok, rfl, HR, hP3, hf3, hn3⟩
                      cases ok with
                      | true => exact absurd HR.out (by simp [rst])
                      | false =>
                        have HB3 : Hid (Below w.heap.size w W3) := HP2.out.lowf hf3
                        simp only [rnCells]
                        clear hP3 hf3 hn3 HR
                        go_wp2_with fail
                        go_ret2
                        refine ⟨HB3.out.alloc HB3.out.size _, ?_⟩
                        rw [HNo.out]
                        exact rfl
                | x :: r', hwsz, HIv2, hown, hcap, HW, HNO, hl0, hl1 =>
                  clear hown
                  have i4 : ¬ cap = 1 := by simp at hcap; omega
                  go_wp2_with fail
                  refine (rname_any _ _ hlx).mono ?_
                  rintro e W2 ⟨rfl, rfl⟩
                  cases hnm : Wm.nm (w0.extract 0 (w0.size - 1)) with
                  | false =>
                    have HNo : Hid (prs s = Pr.syn) := prs_syn (by rw [HIv2.out.2]; exact rdl_no HNO.out (line_bad HC.out (by rw [HLE.out]; exact hnm)))
                    go_wp2_with fail
                    go_ret2
                    refine ⟨HP2.out.low, ?_⟩
                    rw [HNo.out]
                    exact rfl
                  | true =>
                    have HL : Hid (LineIs vs (w0 :: x :: r') (x :: r') (w0.extract 0 (w0.size - 1)) 1) := HLE.out ▸ line_lab HC.out (by rw [HLE.out]; exact hnm)
                    go_wp2_with fail
                    have hAv : some A ≠ vb := fun e => by have := HVA.out A e.symm; omega
                    have hW2z : w.heap.size + 1 ≤ W2.heap.size := by have := HP2.out.rp.lt; omega
                    refine (rst_any w.heap.size (w.heap.size + 1) A 1 (cap - 1) (.slice na nl nc) (.slice none 0 0) vs vb (x :: r') W2 hwsz.tail (by have := HP2.out.vlen; omega) hW2z (by omega) HP2.out.rp HW.out.tail hAv).mono ?_
                    rintro e W3 ⟨m, vb', vs', ok, rfl, HR, hP3, hf3, hn3⟩
                    cases ok with
                    | false =>
                      have HNo : Hid (prs s = Pr.syn) := prs_syn (by rw [HIv2.out.2]; exact rdl_no HNO.out (HL.out.no (by simpa using HR.out)))
                      have HB3 : Hid (Below w.heap.size w W3) := HP2.out.lowf hf3
                      simp only [rnCells]
                      clear hP3 hf3 hn3
                      go_wp2_with fail
                      go_ret2
                      refine ⟨HB3.out.alloc HB3.out.size _, ?_⟩
                      rw [HNo.out]
                      exact rfl
                    | true =>
                      have HR2 : Hid (rst vs (x :: r') = some (m, vs')) := by
                        show _ = _
                        simpa using HR.out
                      clear HR
                      have HY : Hid (vs'.length ≤ 3 * (k + 1)) := by
                        have h1 := lin_len vs (w0 :: x :: r')
                        have h2 := (HL.out.yes m vs' HR2.out).2.2.2.1
                        rw [h2] at h1
                        have := HP2.out.vlen
                        show _ ≤ _
                        omega
                      have HP3 : Hid (PS w s (k + 1) (.slice na nl nc) vs' vb' acc cl W3) := HP2.out.call hP3 hf3 hn3 HY.out
                      have HW3 : Hid (Ws W3 A 1 (x :: r')) := (HW.out.tail).rf HP2.out.rp hAv hf3
                      have HAv : Hid (some A ≠ vb') := hn3.ne HW.out.lt hAv
                      have hcl : cl.length ≤ k := HP2.out.clen
                      obtain ⟨vv, hbx, hov, hvb⟩ := HP3.out.rp.box
                      obtain ⟨hx1, hx2⟩ := box_cells hbx
                      have hBz : w.heap.size < W3.heap.size := HP3.out.rp.lt
                      have hBn : w.heap.size ≠ W3.heap.size := by omega
                      have hBn' : W3.heap.size ≠ w.heap.size := by omega
                      have HH := (show Hid _ from app_facts (.slice (some ⟨A, 1, none⟩) (r'.length + 1) (cap - 1)) { m with lab := w0.extract 0 (w0.size - 1) } rfl HP3.out)
                      have hlen1 : cl.length + 1 ≤ maxLen := by unfold maxLen; omega
                      have hlen2 : (cl.length + 1) * 168 ≤ 140737488355328 := by omega
                      clear hP3 hf3 hn3 hbx hov hvb
                      simp only [rnCells] at HH ⊢
                      go_wp2_with fail
                      go_region_law (refine step_own rfl (.tmp 86) (.tmp 88) 105 rfl (w.heap.size + 1) 111 i0 _ 13 168 Tryz.underlying105 HI.out.1 HI.out.2.1 HI.out.2.2.1 HI.out.2.2.2 rfl (by decide) (.slice na nl nc) cl.length (rrow cl) (by simp [Act.eval, Act.put]) HH.out.1 ⟨W3.heap.size + 1, 0, none⟩ 1 1 _ (by simp [Act.eval, Act.put]) rfl HH.out.2.1 HH.out.2.2.1 hlen1 hlen2 HH.out.2.2.2 ?_; intro v4 W4 hown4 hgrow4; have hg4 := grown_drew' hgrow4; clear hgrow4; obtain ⟨a4, c4, rfl⟩ := sl_of_own hown4; obtain ⟨vv4, hb4⟩ := HP3.out.kept hg4; obtain ⟨x41, x42⟩ := box_cells hb4)
                      all_goals
                        go_wp2_with fail
                        have hrc := relC_of (wa := some ⟨A, 1, none⟩) (wl := (r'.length + 1)) (wc := (cap - 1)) HL.out HR2.out
                        refine ⟨⟨k + 1, k + 1, a4, cl.length + 1, c4, vs', vb', acc ++ [pnOf vs (w0 :: x :: r')], cl ++ [⟨{ m with lab := w0.extract 0 (w0.size - 1) }, some ⟨A, 1, none⟩, (r'.length + 1), (cap - 1)⟩], rest', by omega, by omega, by go_num, by go_num, ⟨HIv2.out.1, by rw [HIv2.out.2, rdl_yes HNO.out HL.out HR2.out]⟩, ?_⟩, by simp [intOf]; omega⟩
                        exact PS.add (HP3.out.below (((Below.refl _ _).alloc (Nat.le_refl _) _).alloc (by simp) _)) hg4 (by rw [List.length_append, rrow_snoc]; exact hown4) ⟨hrc.1, ⟨A, 1, rfl, by rw [hrc.2]; exact (HW3.out.alloc _).alloc _⟩, by rw [hrc.2]; rfl⟩ (fun a ha => by cases ha; exact HAv.out) (by omega)
              | false =>
                rw [h58] at hci
                have HC : Hid (colB w0 = false) := hci
                clear hci
                have HL : Hid (LineIs vs (w0 :: r) (w0 :: r) emp 0) := line_plain HC.out
                go_wp2_with fail
                have hAv : some A ≠ vb := fun e => by have := HVA.out A e.symm; omega
                have hW2z : w.heap.size + 1 ≤ W2.heap.size := by have := HP2.out.rp.lt; omega
                refine (rst_any w.heap.size (w.heap.size + 1) A 0 cap (.slice na nl nc) (.slice none 0 0) vs vb (w0 :: r) W2 hwsz (by have := HP2.out.vlen; omega) hW2z (by omega) HP2.out.rp HW.out hAv).mono ?_
                rintro e W3 ⟨m, vb', vs', ok, rfl, HR, hP3, hf3, hn3⟩
                cases ok with
                | false =>
                  have HNo : Hid (prs s = Pr.syn) := prs_syn (by rw [HIv2.out.2]; exact rdl_no HNO.out (HL.out.no (by simpa using HR.out)))
                  have HB3 : Hid (Below w.heap.size w W3) := HP2.out.lowf hf3
                  simp only [rnCells]
                  clear hP3 hf3 hn3
                  go_wp2_with fail
                  go_ret2
                  refine ⟨HB3.out.alloc HB3.out.size _, ?_⟩
                  rw [HNo.out]
                  exact rfl
                | true =>
                  have HR2 : Hid (rst vs (w0 :: r) = some (m, vs')) := by
                    show _ = _
                    simpa using HR.out
                  clear HR
                  have HY : Hid (vs'.length ≤ 3 * (k + 1)) := by
                    have h1 := lin_len vs (w0 :: r)
                    have h2 := (HL.out.yes m vs' HR2.out).2.2.2.1
                    rw [h2] at h1
                    have := HP2.out.vlen
                    show _ ≤ _
                    omega
                  have HP3 : Hid (PS w s (k + 1) (.slice na nl nc) vs' vb' acc cl W3) := HP2.out.call hP3 hf3 hn3 HY.out
                  have HW3 : Hid (Ws W3 A 0 (w0 :: r)) := (HW.out).rf HP2.out.rp hAv hf3
                  have HAv : Hid (some A ≠ vb') := hn3.ne HW.out.lt hAv
                  have hcl : cl.length ≤ k := HP2.out.clen
                  obtain ⟨vv, hbx, hov, hvb⟩ := HP3.out.rp.box
                  obtain ⟨hx1, hx2⟩ := box_cells hbx
                  have hBz : w.heap.size < W3.heap.size := HP3.out.rp.lt
                  have hBn : w.heap.size ≠ W3.heap.size := by omega
                  have hBn' : W3.heap.size ≠ w.heap.size := by omega
                  have HH := (show Hid _ from app_facts (.slice (some ⟨A, 0, none⟩) (r.length + 1) cap) { m with lab := emp } rfl HP3.out)
                  have hlen1 : cl.length + 1 ≤ maxLen := by unfold maxLen; omega
                  have hlen2 : (cl.length + 1) * 168 ≤ 140737488355328 := by omega
                  clear hP3 hf3 hn3 hbx hov hvb
                  simp only [rnCells] at HH ⊢
                  go_wp2_with fail
                  go_region_law (refine step_own rfl (.tmp 86) (.tmp 88) 105 rfl (w.heap.size + 1) 111 i0 _ 13 168 Tryz.underlying105 HI.out.1 HI.out.2.1 HI.out.2.2.1 HI.out.2.2.2 rfl (by decide) (.slice na nl nc) cl.length (rrow cl) (by simp [Act.eval, Act.put]) HH.out.1 ⟨W3.heap.size + 1, 0, none⟩ 1 1 _ (by simp [Act.eval, Act.put]) rfl HH.out.2.1 HH.out.2.2.1 hlen1 hlen2 HH.out.2.2.2 ?_; intro v4 W4 hown4 hgrow4; have hg4 := grown_drew' hgrow4; clear hgrow4; obtain ⟨a4, c4, rfl⟩ := sl_of_own hown4; obtain ⟨vv4, hb4⟩ := HP3.out.kept hg4; obtain ⟨x41, x42⟩ := box_cells hb4)
                  all_goals
                    go_wp2_with fail
                    have hrc := relC_of (wa := some ⟨A, 0, none⟩) (wl := (r.length + 1)) (wc := cap) HL.out HR2.out
                    refine ⟨⟨k + 1, k + 1, a4, cl.length + 1, c4, vs', vb', acc ++ [pnOf vs (w0 :: r)], cl ++ [⟨{ m with lab := emp }, some ⟨A, 0, none⟩, (r.length + 1), cap⟩], rest', by omega, by omega, by go_num, by go_num, ⟨HIv2.out.1, by rw [HIv2.out.2, rdl_yes HNO.out HL.out HR2.out]⟩, ?_⟩, by simp [intOf]; omega⟩
                    exact PS.add (HP3.out.below (((Below.refl _ _).alloc (Nat.le_refl _) _).alloc (by simp) _)) hg4 (by rw [List.length_append, rrow_snoc]; exact hown4) ⟨hrc.1, ⟨A, 0, rfl, by rw [hrc.2]; exact (HW3.out.alloc _).alloc _⟩, by rw [hrc.2]; rfl⟩ (fun a ha => by cases ha; exact HAv.out) (by omega)
    · obtain rfl : k = s.size + 1 := by omega
      have hlei : ¬ ((s.size + 1 : Nat) : Int) ≤ (s.size : Int) := by omega
      have hled : decide (((s.size + 1 : Nat) : Int) ≤ (s.size : Int)) = false := decide_eq_false hlei
      have hrest : rest = [] := by
        have := HIv.out.1
        unfold InvL at this
        rw [if_neg (by omega)] at this
        exact this
      subst hrest
      have HF : Hid (rdl [] [] (lnW s) = some (acc, vs)) := by
        show _ = _
        rw [HIv.out.2]; rfl
      clear HIv
      obtain ⟨vv, hbx, hov, hvb⟩ := HP.out.rp.box
      obtain ⟨va, vc, rfl⟩ := sl_of_own hov
      have hrow := HP.out.row
      have hlen := HP.out.reps.len
      by_cases hbad : cl.length = 0 ∨ 60 < cl.length ∨ 8 < vs.length
      · have HN : Hid (prs s = Pr.prg) := prs_prg hs HF.out (by unfold progOk; rw [← hlen]; rcases hbad with h | h | h <;> simp <;> omega)
        obtain ⟨na', nc', hnv⟩ := sl_of_own hrow
        simp only [Value.slice.injEq] at hnv
        obtain ⟨rfl, rfl, rfl⟩ := hnv
        have HLN := (show Hid _ from linked_no w.heap.size na va none cl.length nc vs.length vc 0 0 wr hbx hbad)
        clear hbx hov hvb hrow hbad
        go_wp2_with fail
        refine Calls.mono HLN.out ?_
        rintro e W5 ⟨rfl, rfl⟩
        go_wp2_with fail
        go_ret2
        refine ⟨HP.out.low, ?_⟩
        rw [HN.out]
        exact rfl
      · obtain ⟨g, cp, hnv, hgB, hN⟩ := rrow_of_own hrow (by omega)
        simp only [Value.slice.injEq] at hnv
        obtain ⟨rfl, rfl, rfl⟩ := hnv
        have HLT := (show Hid _ from linked_try w.heap.size g nc vs.length vc va cl wr hbx hN (by omega) (by omega) (by omega))
        have HPO : Hid (progOk acc vs = rlk cl) := by
          show _ = _
          unfold progOk
          rw [link_rlk HP.out.reps.rel (by omega), ← hlen]
          have h1 : decide (vs.length ≤ 8) = true := decide_eq_true (by omega)
          have h2 : decide (0 < cl.length) = true := decide_eq_true (by omega)
          have h3 : decide (cl.length ≤ 60) = true := decide_eq_true (by omega)
          rw [h1, h2, h3]; rfl
        have HB : Hid (0 < cl.length) := by
          show 0 < cl.length
          omega
        clear hbx hov hvb hrow hbad hN
        go_wp2_with fail
        refine Calls.mono HLT.out ?_
        rintro e W5 ⟨rfl, hyes, hf5⟩
        have HLOW : Hid (Below w.heap.size w W5) := HP.out.lowf hf5.of_none
        cases hrl : rlk cl with
        | false =>
          have HN : Hid (prs s = Pr.prg) := prs_prg hs HF.out (by rw [HPO.out, hrl])
          clear hyes
          go_wp2_with fail
          go_ret2
          refine ⟨HLOW.out, ?_⟩
          rw [HN.out]
          exact rfl
        | true =>
          have HN : Hid (prs s = Pr.ok acc vs) := prs_okk hs HF.out (by rw [HPO.out, hrl])
          obtain ⟨xv, evs, hL⟩ := hyes hrl
          have HA := (show Hid _ from parse_ok HP.out hgB HB.out hrl hL hf5 HLOW.out)
          clear hyes hL hf5
          go_wp2_with fail
          go_ret2
          rw [HN.out]
          exact HA.out
theorem rparse_any (s : ByteArray) (w : World) : Calls Tryz.prog 38 #[.string s] w (RPAns w (prs s)) := by
  by_cases h : 3000 < s.size
  · have e : prs s = Pr.syn := by unfold prs; rw [if_pos h]
    rw [e]
    refine (rparse_long s w (by rw [decide_eq_true_eq]; omega)).mono ?_
    rintro e' w' ⟨rfl, rfl⟩
    exact ⟨Below.refl _ _, rfl⟩
  · exact rparse_try s w (by omega)
end Go.Proofs.YtmipbiligijcpaaGreatDoor
