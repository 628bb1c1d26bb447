/- A part of the proof: contracts of functions of the program. -/
import Derived.Test.YtmipbiligijcpaaGreatDoorA27
namespace Go.Proofs.YtmipbiligijcpaaGreatDoor
set_option linter.unusedVariables false
set_option linter.unusedSimpArgs false
open Go.RowKit Go.Proofs Go.Maps

set_option maxHeartbeats 400000 in
theorem linked_no (pb : Nat) (na va xa : Option Addr) (n nc vl vc xl xc : Nat) (w : World) (hb : w.heap[pb]? = some (.cells #[.slice na n nc, .slice va vl vc, .slice xa xl xc] 107 (0, 0))) (h : n = 0 ∨ 60 < n ∨ 8 < vl) :
    Calls Tryz.prog 70 #[.pointer (some ⟨pb, 0, none⟩)] w fun e w' => e = .returned (.bool false) ∧ w' = w := by
  obtain ⟨hx1, hx2⟩ := box_cells hb
  by_cases h0 : n = 0
  · subst h0
    go_enter Tryz.func70, Tryz.ntmps70
    go_wp2
    go_ret
    exact ⟨rfl, rfl⟩
  · have e0 : ((n : Int) == 0) = false := by rw [beq_eq_false_iff_ne]; omega
    by_cases h1 : 60 < n
    · have e1 : decide (60 < (n : Int)) = true := by rw [decide_eq_true_eq]; omega
      go_enter Tryz.func70, Tryz.ntmps70
      go_wp2
      go_ret
      exact ⟨rfl, rfl⟩
    · have e1 : decide (60 < (n : Int)) = false := by rw [decide_eq_false_iff_not]; omega
      have e2 : decide (8 < (vl : Int)) = true := by rw [decide_eq_true_eq]; omega
      go_enter Tryz.func70, Tryz.ntmps70
      go_wp2
      go_ret
      exact ⟨rfl, rfl⟩

theorem and_true_of {a b : Bool} (h : a = true) (k : b = true) : (a && b) = true := by rw [h, k]; rfl
def NoDup (cl : List RC) (k : Nat) (n : RN) (m : Nat) : Prop := (!n.lab.toList.isEmpty && dupTo cl k n.lab m) = false
theorem RF.drewN {pb : Nat} {vb : Option Nat} {u w : World} (h : RF pb vb u w) (n : Nat) : RF pb vb u (w.drewN n) := ⟨h.os, h.tape, h.output, h.size, h.block⟩
theorem RF.then {pb : Nat} {vb : Option Nat} {u v w : World} (h : RF pb vb u v) (k : Below v.heap.size v w) : RF pb vb u w := h.trans (Or.inl rfl) (RF.of_below k)
/-- k nodes have their edges -/
structure LkS (w : World) (pb g cap : Nat) (vv : Value) (cl : List RC) (k : Nat) (xv : Value) (evs : List Value) (W : World) : Prop where
  box : W.heap[pb]? = some (.cells #[.slice (some ⟨g, 0, none⟩) cl.length cap, vv, xv] 107 (0, 0))
  rf : RF pb none w W
  row : Rrow W g cap cl
  next : W.ownsRow w.heap.size 36 1 xv evs.length evs
  len : evs.length = k
  edges : ∀ j ev c, evs[j]? = some ev → cl[j]? = some c → W.ownsRow w.heap.size 3 1 ev (redg cl j c.n).length ((redg cl j c.n).map (Value.int .i64))
theorem LkS.below {w W W' : World} {pb g cap : Nat} {vv xv : Value} {cl : List RC} {k : Nat} {evs : List Value} (h : LkS w pb g cap vv cl k xv evs W) (hb : Below W.heap.size W W') : LkS w pb g cap vv cl k xv evs W' :=
  ⟨(hb.block pb (Array.getElem?_eq_some_iff.1 h.box).1).trans h.box, RF.then h.rf hb, h.row.of_block (hb.block g h.row.lt), own_of_below h.next hb, h.len, fun j ev c a b => own_of_below (h.edges j ev c a b) hb⟩
theorem LkS.kept6 {w W W4 : World} {pb g cap : Nat} {vv xv : Value} {cl : List RC} {k : Nat} {evs : List Value} {o : Obj} (h : LkS w pb g cap vv cl k xv evs W) (hp : pb < w.heap.size) (hgr : (W.alloc o).grownBy W4 xv.ownBlock) : W4.heap[pb]? = some (.cells #[.slice (some ⟨g, 0, none⟩) cl.length cap, vv, xv] 107 (0, 0)) :=
  (((World.grownBy_alloc W o _).trans hgr).block pb (Array.getElem?_eq_some_iff.1 h.box).1 (lt_ne (fun k hk => (h.next.lt k hk).1) hp)).trans h.box
theorem LkS.step {w W W4 : World} {pb g cap : Nat} {vv xv v4 lv : Value} {cl : List RC} {k : Nat} {evs : List Value} {c : RC} {o : Obj} (h : LkS w pb g cap vv cl k xv evs W) (hc : cl[k]? = some c) (hp : pb < w.heap.size) (hg : g < w.heap.size ∧ g ≠ pb ∧ w.heap.size ≤ W.heap.size) (hl : W.ownsRow w.heap.size 3 1 lv (redg cl k c.n).length ((redg cl k c.n).map (Value.int .i64))) (hgr : (W.alloc o).grownBy W4 xv.ownBlock) (ho : W4.ownsRow w.heap.size 36 1 v4 (evs ++ [lv]).length (evs ++ [lv])) : LkS w pb g cap vv cl (k + 1) v4 (evs ++ [lv]) (W4.setCell ⟨pb, 2, none⟩ v4) := by
  have hga : W.grownBy W4 xv.ownBlock := (World.grownBy_alloc W o _).trans hgr
  have hlow := h.next.lt
  have hxne : ∀ q, q < w.heap.size → some q ≠ xv.ownBlock := fun q hq => lt_ne (fun k hk => (hlow k hk).1) hq
  have hb4 : W4.heap[pb]? = some (.cells #[.slice (some ⟨g, 0, none⟩) cl.length cap, vv, xv] 107 (0, 0)) := (hga.block pb (by omega) (hxne pb hp)).trans h.box
  have hg4 := (hga.block g (by omega) (hxne g hg.1))
  have keep : ∀ {ev : Value} {es : List Int}, W.ownsRow w.heap.size 3 1 ev es.length (es.map (Value.int .i64)) → (W4.setCell ⟨pb, 2, none⟩ v4).ownsRow w.heap.size 3 1 ev es.length (es.map (Value.int .i64)) := fun he =>
    (he.kept hga (own_ne_ty he h.next (by decide))).kept (grown_self W4 pb 2 v4) (own_lt_ne he hp)
  refine ⟨?_, ?_, ?_, ?_, by rw [List.length_append, h.len]; rfl, ?_⟩
  · rw [heap_setCell_same _ _ _ _ _ _ hb4]; rfl
  · refine ⟨hga.os.trans h.rf.os, hga.tape.trans h.rf.tape, hga.output.trans h.rf.output, by have := hga.size; simp [World.setCell]; have := hg.2.2; omega, fun q hq h1 h2 => ?_⟩
    refine (Below.heap_setCell _ _ _ _ h1).trans ((hga.block q (by have := hg.2.2; omega) (hxne q hq)).trans (h.rf.block q hq h1 h2))
  · exact h.row.of_block ((Below.heap_setCell _ _ _ _ hg.2.1).trans hg4)
  · exact ho.kept (grown_self W4 pb 2 v4) (own_lt_ne ho hp)
  · intro j ev c' hj hc'
    by_cases e : j < evs.length
    · rw [List.getElem?_append_left e] at hj
      exact keep (h.edges j ev c' hj hc')
    · have hjk : j = evs.length := by
        have := (List.getElem?_eq_some_iff.1 hj).1; simp at this; omega
      subst hjk
      rw [List.getElem?_append_right (Nat.le_refl _)] at hj
      simp at hj
      subst hj
      rw [h.len] at hc' ⊢
      rw [hc] at hc'; cases hc'
      exact keep hl
theorem not_bad {cl : List RC} {k : Nat} {m : RN} (h1 : (!m.lab.toList.isEmpty && dupTo cl k m.lab cl.length) = false) (h2 : (!m.goal.toList.isEmpty && (hitsN cl m cl.length).isEmpty) = false) (h3 : (falls m && decide (k + 1 = cl.length)) = false) : (match some (⟨m, none, 0, 0⟩ : RC) with | some c => !rbad cl k c.n | none => true) = true := by
  show (!rbad cl k m) = true
  unfold rbad
  rw [h1, h2, h3]; rfl
set_option maxHeartbeats 2000000 in
set_option maxRecDepth 100000 in
theorem linked_try (pb g cap vl vc : Nat) (va : Option Addr) (cl : List RC) (w : World) (hb : w.heap[pb]? = some (.cells #[.slice (some ⟨g, 0, none⟩) cl.length cap, .slice va vl vc, .slice none 0 0] 107 (0, 0))) (hN : Rrow w g cap cl) (h0 : 0 < cl.length) (h60 : cl.length ≤ 60) (h8 : vl ≤ 8) :
    Calls Tryz.prog 70 #[.pointer (some ⟨pb, 0, none⟩)] w fun e w' => e = .returned (.bool (rlk cl)) ∧ (rlk cl = true → ∃ xv evs, LkS w pb g cap (.slice va vl vc) cl cl.length xv evs w') ∧ RF pb none w w' := by
  obtain ⟨hx1, hx2⟩ := box_cells hb
  obtain ⟨i1, hi, hz0, hz1, hz2⟩ := info_parts infoInt
  have HI : Hid (Tryz.prog.info? 3 = some i1 ∧ i1.zero = some (.int .i64 0) ∧ i1.size = 1 ∧ i1.bytes = 8) := ⟨hi, hz0, hz1, hz2⟩
  clear hi hz0 hz1 hz2
  obtain ⟨i2, hi, hz0, hz1, hz2⟩ := info_parts infoSl
  have HI2 : Hid (Tryz.prog.info? 36 = some i2 ∧ i2.zero = some (.slice none 0 0) ∧ i2.size = 1 ∧ i2.bytes = 24) := ⟨hi, hz0, hz1, hz2⟩
  clear hi hz0 hz1 hz2
  have e0 : ((cl.length : Int) == 0) = false := by rw [beq_eq_false_iff_ne]; omega
  have e1 : decide (60 < (cl.length : Int)) = false := by rw [decide_eq_false_iff_not]; omega
  have e2 : decide (8 < (vl : Int)) = false := by rw [decide_eq_false_iff_not]; omega
  go_enter Tryz.func70, Tryz.ntmps70
  go_wp2_with fail
  have HPG : Hid (pb < w.heap.size ∧ (g < w.heap.size ∧ g ≠ pb ∧ True) ∧ True) := ⟨(Array.getElem?_eq_some_iff.1 hb).1, ⟨hN.lt, ?_, trivial⟩, trivial⟩
  rotate_left
  · rintro rfl
    obtain ⟨cur, hc, _⟩ := hN
    rw [hb] at hc
    simp at hc
  go_loopw [4] (fun i wr => ∃ (k : Nat) (xa : Option Addr) (xl xc : Nat) (evs : List Value), k ≤ cl.length ∧ i = .int .i64 k ∧ Hid (rlkTo cl k = true) ∧ wr.heap[pb]? = some (.cells #[.slice (some ⟨g, 0, none⟩) cl.length cap, .slice va vl vc, .slice xa xl xc] 107 (0, 0)) ∧ Hid (LkS w pb g cap (.slice va vl vc) cl k (.slice xa xl xc) evs wr)) (fun i _ => cl.length - (intOf i).toNat)
  case atStart =>
    refine ⟨0, none, 0, 0, [], by omega, rfl, rfl, hb, ⟨hb, RF.refl _ _ _, hN, World.ownsRow_nil _ _ _ _, rfl, fun j ev c h => by simp at h⟩⟩
  case round =>
    clear hx1 hx2 hb
    obtain ⟨k, xa, xl, xc, evs, hk, rfl, HR, hbx, HH⟩ := hrel
    have hf := HH.out.rf
    obtain ⟨hx1, hx2⟩ := box_cells hbx
    by_cases hlt : k < cl.length
    · obtain ⟨c, hc⟩ : ∃ c, cl[k]? = some c := ⟨_, List.getElem?_eq_getElem hlt⟩
      obtain ⟨c0, c1, c2, c3, c4, c5, c6, c7, c8, c9, c10, c11, c12⟩ := HH.out.row.all k c hc
      have hlti : (k : Int) < (cl.length : Int) := by omega
      have hgz := HH.out.row.lt
      have hpz : pb < wr.heap.size := (Array.getElem?_eq_some_iff.1 hbx).1
      go_wp2_with fail
      have hbX := heap_alloc_new wr (.cells #[.slice c.wa c.wl c.wc, .string c.n.lab, .string c.n.does, .int .i64 c.n.target, .int .i64 c.n.a.var, .int .i64 c.n.a.c, .string c.n.a.word, .int .i64 c.n.b.var, .int .i64 c.n.b.c, .string c.n.b.word, .int .i64 c.n.ops, .string c.n.sign, .string c.n.goal] 111)
      have hbP := kept_alloc hbx (.cells #[.slice c.wa c.wl c.wc, .string c.n.lab, .string c.n.does, .int .i64 c.n.target, .int .i64 c.n.a.var, .int .i64 c.n.a.c, .string c.n.a.word, .int .i64 c.n.b.var, .int .i64 c.n.b.c, .string c.n.b.word, .int .i64 c.n.ops, .string c.n.sign, .string c.n.goal] 111)
      have hbN := HH.out.row.of_block (Below.heap_alloc wr (.cells #[.slice c.wa c.wl c.wc, .string c.n.lab, .string c.n.does, .int .i64 c.n.target, .int .i64 c.n.a.var, .int .i64 c.n.a.c, .string c.n.a.word, .int .i64 c.n.b.var, .int .i64 c.n.b.c, .string c.n.b.word, .int .i64 c.n.ops, .string c.n.sign, .string c.n.goal] 111) g hgz)
      have hbF := RF.snoc hf (.cells #[.slice c.wa c.wl c.wc, .string c.n.lab, .string c.n.does, .int .i64 c.n.target, .int .i64 c.n.a.var, .int .i64 c.n.a.c, .string c.n.a.word, .int .i64 c.n.b.var, .int .i64 c.n.b.c, .string c.n.b.word, .int .i64 c.n.ops, .string c.n.sign, .string c.n.goal] 111)
      have hzz : (wr.alloc (.cells #[.slice c.wa c.wl c.wc, .string c.n.lab, .string c.n.does, .int .i64 c.n.target, .int .i64 c.n.a.var, .int .i64 c.n.a.c, .string c.n.a.word, .int .i64 c.n.b.var, .int .i64 c.n.b.c, .string c.n.b.word, .int .i64 c.n.ops, .string c.n.sign, .string c.n.goal] 111)).heap.size = wr.heap.size + 1 := by simp
      have hgr : wr.grownBy (wr.alloc (.cells #[.slice c.wa c.wl c.wc, .string c.n.lab, .string c.n.does, .int .i64 c.n.target, .int .i64 c.n.a.var, .int .i64 c.n.a.c, .string c.n.a.word, .int .i64 c.n.b.var, .int .i64 c.n.b.c, .string c.n.b.word, .int .i64 c.n.ops, .string c.n.sign, .string c.n.goal] 111)) none := World.grownBy_alloc _ _ _
      have HLK1 : Hid (LkS w pb g cap (.slice va vl vc) cl k (.slice xa xl xc) evs (wr.alloc (.cells #[.slice c.wa c.wl c.wc, .string c.n.lab, .string c.n.does, .int .i64 c.n.target, .int .i64 c.n.a.var, .int .i64 c.n.a.c, .string c.n.a.word, .int .i64 c.n.b.var, .int .i64 c.n.b.c, .string c.n.b.word, .int .i64 c.n.ops, .string c.n.sign, .string c.n.goal] 111))) := HH.out.below ((Below.refl _ _).alloc (Nat.le_refl _) _)
      have hwW : w.heap.size ≤ wr.heap.size := hf.size
      generalize wr.alloc (.cells #[.slice c.wa c.wl c.wc, .string c.n.lab, .string c.n.does, .int .i64 c.n.target, .int .i64 c.n.a.var, .int .i64 c.n.a.c, .string c.n.a.word, .int .i64 c.n.b.var, .int .i64 c.n.b.c, .string c.n.b.word, .int .i64 c.n.ops, .string c.n.sign, .string c.n.goal] 111) = W1 at hbX hbP hbN hbF hzz hgr HLK1 ⊢
      clear c0 c1 c2 c3 c4 c5 c6 c7 c8 c9 c10 c11 c12 hx1 hx2
      go_loopw [5, 7] (fun v i wi => ∃ m : Nat, m ≤ cl.length ∧ i = .int .i64 m ∧ Hid (NoDup cl k c.n m) ∧ wi.ownsRow W1.heap.size 3 1 v (hitsN cl c.n m).length ((hitsN cl c.n m).map (Value.int .i64)) ∧ Below W1.heap.size W1 wi) (fun _ i _ => cl.length - (intOf i).toNat)
      case atStart =>
        have e : hitsN cl c.n 0 = [] := by unfold hitsN hitsTo; split <;> rfl
        refine ⟨0, by omega, rfl, by show (_ && _) = false; simp [dupTo], ?_, Below.refl _ _⟩
        rw [e]
        exact World.ownsRow_nil _ _ _ _
      case round =>
        obtain ⟨m, hm, rfl, HD, hown, hbl⟩ := hrel
        rename_i wi
        have hXi := (hbl.block _ (by omega)).trans hbX
        have hPi := (hbl.block pb (by omega)).trans hbP
        have hNi := hbN.of_block (hbl.block g (by omega))
        obtain ⟨x1, x2⟩ := box_cells hXi
        obtain ⟨y1, y2⟩ := box_cells hPi
        by_cases hml : m < cl.length
        · obtain ⟨d, hd⟩ : ∃ d, cl[m]? = some d := ⟨_, List.getElem?_eq_getElem hml⟩
          have d1 := (hNi.all m d hd).2.1
          have hmi : (m : Int) < (cl.length : Int) := by omega
          have HS := (show Hid (_ ∧ _) from ⟨hitsN_succ cl c.n m d hd, dup_succ cl k c.n.lab m d hd⟩)
          have hmki : ((m : Int) == (k : Int)) = !decide (m ≠ k) := by
            rw [Bool.eq_iff_iff]; simp; omega
          have HMK : Hid (((m : Int) == (k : Int)) = !decide (m ≠ k)) := hmki
          clear hmki
          by_cases hdup : (!c.n.lab.toList.isEmpty && (decide (m ≠ k) && (d.n.lab.toList == c.n.lab.toList))) = true
          · have HB : Hid (rlk cl = false) := by
              refine rlk_bad hc ?_
              have e1 : dupTo cl k c.n.lab (m + 1) = true := by
                rw [HS.out.2]
                simp only [Bool.and_eq_true] at hdup
                rw [hdup.2.1, hdup.2.2]; simp
              have e2 := dup_mono e1 cl.length (by omega)
              unfold rbad
              simp only [Bool.and_eq_true] at hdup
              rw [e2, hdup.1]; simp
            simp only [Bool.and_eq_true] at hdup
            obtain ⟨hl, hmk0, hld⟩ := hdup
            rw [Bool.not_eq_true'] at hl
            have hmk : ((m : Int) == (k : Int)) = false := by rw [HMK.out, hmk0]; rfl
            have hmk' : ((m : Int) != (k : Int)) = true := by simp only [bne, hmk]; rfl
            clear HMK hmk0 HS
            go_wp2_with fail
            go_quiet (fail)
            go_wp2_with fail
            go_ret
            exact ⟨ret_bool HB.out.symm, (by rw [HB.out]; exact fun h => by cases h), (RF.then hbF hbl).drewN _⟩
          · rw [Bool.not_eq_true] at hdup
            have HD2 : Hid (NoDup cl k c.n (m + 1)) := by
              show (_ && _) = false
              have HD0 : (!c.n.lab.toList.isEmpty && dupTo cl k c.n.lab m) = false := HD.out
              rw [HS.out.2, Bool.and_or_distrib_left, HD0, hdup]; rfl
            cases hl : c.n.lab.toList.isEmpty with
            | true =>
              clear HMK hdup HD
              go_wp2_with fail
              cases hg : c.n.goal.toList.isEmpty with
              | true =>
                have HE : Hid (hitsN cl c.n (m + 1) = hitsN cl c.n m) := by show _ = _; rw [HS.out.1, hg]; rfl
                clear HS
                go_quiet (fail)
                go_wp2_with fail
                go_quiet (fail)
                go_wp2_with fail
                go_roundw
                case rel =>
                  refine ⟨m + 1, by omega, by go_num, HD2, ?_, below_drewN hbl _⟩
                  rw [HE.out]; exact own_drewN hown _
                case measure => simp [intOf]; omega
              | false =>
                cases hgd : (d.n.lab.toList == c.n.goal.toList) with
                | false =>
                  have HE : Hid (hitsN cl c.n (m + 1) = hitsN cl c.n m) := by show _ = _; rw [HS.out.1, hg, hgd]; rfl
                  clear HS
                  go_quiet (fail)
                  go_wp2_with fail
                  go_quiet (fail)
                  go_wp2_with fail
                  go_roundw
                  case rel =>
                    refine ⟨m + 1, by omega, by go_num, HD2, ?_, below_drewN hbl _⟩
                    rw [HE.out]; exact own_drewN hown _
                  case measure => simp [intOf]; omega
                | true =>
                  have HE : Hid (hitsN cl c.n (m + 1) = hitsN cl c.n m ++ [(m : Int)]) := by show _ = _; rw [HS.out.1, hg, hgd]; rfl
                  have hhl := hitsN_le cl c.n m
                  clear HS
                  go_quiet (fail)
                  revert nq
                  intro q1
                  go_wp2_with fail
                  go_quiet (fail)
                  try simp only [World.drewN_drewN]
                  have hown2 := own_drewN hown (q1 + nq)
                  have hbl2 := below_drewN hbl (q1 + nq)
                  generalize wr.drewN (q1 + nq) = W2 at hown2 hbl2 ⊢
                  go_wp2_with (at_builtin; refine wpList_append_own _ rfl (.tmp 81) (.tmp 83) 36 rfl W1.heap.size 3 i1 (.int .i64 0) 1 8 Tryz.underlying36 HI.out.1 HI.out.2.1 HI.out.2.2.1 HI.out.2.2.2 rfl (by decide) _ _ _ rfl (hown2.alloc _) ⟨W2.heap.size, 0, none⟩ 1 1 [.int .i64 m] rfl rfl (cell_one _ _ _) (by intro u hu; simp at hu; subst hu; rfl) (by unfold maxLen; omega) (by omega) (by have := hbl2.size; simp; omega) ?_; intro v4 W4 hown4 hgrow4 hnil4)
                  all_goals
                    go_roundw
                    case rel =>
                      refine ⟨m + 1, by omega, by go_num, HD2, ?_, (hbl2.alloc hbl2.size _).grown hgrow4 (by have := hbl2.size; simp; omega) (fun q hq => (hown2.lt q hq).1)⟩
                      rw [HE.out, List.length_append, List.map_append]
                      exact hown4
                    case measure => simp [intOf]; omega
            | false =>
              cases hmk : ((m : Int) == (k : Int)) with
              | true =>
                have hmk' : ((m : Int) != (k : Int)) = false := by simp only [bne, hmk]; rfl
                clear HMK hdup HD
                go_wp2_with fail
                cases hg : c.n.goal.toList.isEmpty with
                | true =>
                  have HE : Hid (hitsN cl c.n (m + 1) = hitsN cl c.n m) := by show _ = _; rw [HS.out.1, hg]; rfl
                  clear HS
                  go_quiet (fail)
                  go_wp2_with fail
                  go_quiet (fail)
                  go_wp2_with fail
                  go_roundw
                  case rel =>
                    refine ⟨m + 1, by omega, by go_num, HD2, ?_, below_drewN hbl _⟩
                    rw [HE.out]; exact own_drewN hown _
                  case measure => simp [intOf]; omega
                | false =>
                  cases hgd : (d.n.lab.toList == c.n.goal.toList) with
                  | false =>
                    have HE : Hid (hitsN cl c.n (m + 1) = hitsN cl c.n m) := by show _ = _; rw [HS.out.1, hg, hgd]; rfl
                    clear HS
                    go_quiet (fail)
                    go_wp2_with fail
                    go_quiet (fail)
                    go_wp2_with fail
                    go_roundw
                    case rel =>
                      refine ⟨m + 1, by omega, by go_num, HD2, ?_, below_drewN hbl _⟩
                      rw [HE.out]; exact own_drewN hown _
                    case measure => simp [intOf]; omega
                  | true =>
                    have HE : Hid (hitsN cl c.n (m + 1) = hitsN cl c.n m ++ [(m : Int)]) := by show _ = _; rw [HS.out.1, hg, hgd]; rfl
                    have hhl := hitsN_le cl c.n m
                    clear HS
                    go_quiet (fail)
                    revert nq
                    intro q1
                    go_wp2_with fail
                    go_quiet (fail)
                    try simp only [World.drewN_drewN]
                    have hown2 := own_drewN hown (q1 + nq)
                    have hbl2 := below_drewN hbl (q1 + nq)
                    generalize wr.drewN (q1 + nq) = W2 at hown2 hbl2 ⊢
                    go_wp2_with (at_builtin; refine wpList_append_own _ rfl (.tmp 81) (.tmp 83) 36 rfl W1.heap.size 3 i1 (.int .i64 0) 1 8 Tryz.underlying36 HI.out.1 HI.out.2.1 HI.out.2.2.1 HI.out.2.2.2 rfl (by decide) _ _ _ rfl (hown2.alloc _) ⟨W2.heap.size, 0, none⟩ 1 1 [.int .i64 m] rfl rfl (cell_one _ _ _) (by intro u hu; simp at hu; subst hu; rfl) (by unfold maxLen; omega) (by omega) (by have := hbl2.size; simp; omega) ?_; intro v4 W4 hown4 hgrow4 hnil4)
                    all_goals
                      go_roundw
                      case rel =>
                        refine ⟨m + 1, by omega, by go_num, HD2, ?_, (hbl2.alloc hbl2.size _).grown hgrow4 (by have := hbl2.size; simp; omega) (fun q hq => (hown2.lt q hq).1)⟩
                        rw [HE.out, List.length_append, List.map_append]
                        exact hown4
                      case measure => simp [intOf]; omega
              | false =>
                have hmk' : ((m : Int) != (k : Int)) = true := by simp only [bne, hmk]; rfl
                have hld : (d.n.lab.toList == c.n.lab.toList) = false := by
                  have e1 : decide (m ≠ k) = true := by have := HMK.out; rw [hmk] at this; simpa using this.symm
                  rw [hl, e1] at hdup
                  simpa using hdup
                clear HMK hdup HD
                go_wp2_with fail
                cases hg : c.n.goal.toList.isEmpty with
                | true =>
                  have HE : Hid (hitsN cl c.n (m + 1) = hitsN cl c.n m) := by show _ = _; rw [HS.out.1, hg]; rfl
                  clear HS
                  go_quiet (fail)
                  go_wp2_with fail
                  go_quiet (fail)
                  go_wp2_with fail
                  go_roundw
                  case rel =>
                    refine ⟨m + 1, by omega, by go_num, HD2, ?_, below_drewN hbl _⟩
                    rw [HE.out]; exact own_drewN hown _
                  case measure => simp [intOf]; omega
                | false =>
                  cases hgd : (d.n.lab.toList == c.n.goal.toList) with
                  | false =>
                    have HE : Hid (hitsN cl c.n (m + 1) = hitsN cl c.n m) := by show _ = _; rw [HS.out.1, hg, hgd]; rfl
                    clear HS
                    go_quiet (fail)
                    go_wp2_with fail
                    go_quiet (fail)
                    go_wp2_with fail
                    go_roundw
                    case rel =>
                      refine ⟨m + 1, by omega, by go_num, HD2, ?_, below_drewN hbl _⟩
                      rw [HE.out]; exact own_drewN hown _
                    case measure => simp [intOf]; omega
                  | true =>
                    have HE : Hid (hitsN cl c.n (m + 1) = hitsN cl c.n m ++ [(m : Int)]) := by show _ = _; rw [HS.out.1, hg, hgd]; rfl
                    have hhl := hitsN_le cl c.n m
                    clear HS
                    go_quiet (fail)
                    revert nq
                    intro q1
                    go_wp2_with fail
                    go_quiet (fail)
                    try simp only [World.drewN_drewN]
                    have hown2 := own_drewN hown (q1 + nq)
                    have hbl2 := below_drewN hbl (q1 + nq)
                    generalize wr.drewN (q1 + nq) = W2 at hown2 hbl2 ⊢
                    go_wp2_with (at_builtin; refine wpList_append_own _ rfl (.tmp 81) (.tmp 83) 36 rfl W1.heap.size 3 i1 (.int .i64 0) 1 8 Tryz.underlying36 HI.out.1 HI.out.2.1 HI.out.2.2.1 HI.out.2.2.2 rfl (by decide) _ _ _ rfl (hown2.alloc _) ⟨W2.heap.size, 0, none⟩ 1 1 [.int .i64 m] rfl rfl (cell_one _ _ _) (by intro u hu; simp at hu; subst hu; rfl) (by unfold maxLen; omega) (by omega) (by have := hbl2.size; simp; omega) ?_; intro v4 W4 hown4 hgrow4 hnil4)
                    all_goals
                      go_roundw
                      case rel =>
                        refine ⟨m + 1, by omega, by go_num, HD2, ?_, (hbl2.alloc hbl2.size _).grown hgrow4 (by have := hbl2.size; simp; omega) (fun q hq => (hown2.lt q hq).1)⟩
                        rw [HE.out, List.length_append, List.map_append]
                        exact hown4
                      case measure => simp [intOf]; omega
        · obtain rfl : m = cl.length := by omega
          obtain ⟨la, lc, rfl⟩ := sl_of_own hown
          obtain ⟨L, hL⟩ : ∃ L, hitsN cl c.n cl.length = L := ⟨_, rfl⟩
          have hLl : L.length ≤ 60 := by have := hitsN_le cl c.n cl.length; rw [hL] at this; omega
          rw [hL] at hown
          have HL : Hid (hitsN cl c.n cl.length = L) := hL
          rw [hL]
          clear hL
          have HN : Hid (NoDup cl k c.n cl.length) := HD
          clear HD
          have HLK : Hid (LkS w pb g cap (.slice va vl vc) cl k (.slice xa xl xc) evs wr) := HLK1.out.below hbl
          have HX : Hid (wr.ownsRow w.heap.size 36 1 (.slice xa xl xc) evs.length evs) := HLK.out.next
          have hel : evs.length = k := HLK.out.len
          have hww : w.heap.size ≤ wr.heap.size := HLK.out.rf.size
          have hxl1 : evs.length + 1 ≤ maxLen := by unfold maxLen; omega
          have hxl2 : (evs.length + 1) * 24 ≤ 140737488355328 := by omega
          clear hel
          by_cases hbad : (!c.n.goal.toList.isEmpty && L.isEmpty) = true
          · have HB : Hid (rlk cl = false) := by
              refine rlk_bad hc ?_
              unfold rbad
              rw [HL.out, hbad]; simp
            simp only [Bool.and_eq_true, Bool.not_eq_true', List.isEmpty_iff] at hbad
            obtain ⟨hg, rfl⟩ := hbad
            go_wp2_with fail
            go_ret
            exact ⟨ret_bool HB.out.symm, (by rw [HB.out]; exact fun h => by cases h), RF.then hbF hbl⟩
          · rw [Bool.not_eq_true] at hbad
            have HNB : Hid ((!c.n.goal.toList.isEmpty && L.isEmpty) = false) := hbad
            cases hg : c.n.goal.toList.isEmpty with
            | true =>
              clear hbad
              cases hd1 : (c.n.does.toList == [103, 111, 116, 111]) with
              | true =>
                have HRE : Hid (redg cl k c.n = L) := by
                  show _ = _
                  unfold redg
                  rw [HL.out, show falls c.n = false by unfold falls; simp [hd1]]; simp
                have HK2 : Hid (rlkTo cl (k + 1) = true) := by
                  show _ = _
                  rw [rlkTo, HR.out, hc]; exact and_true_of rfl (not_bad HN.out (by rw [HL.out]; exact HNB.out) (by unfold falls; simp [hd1]))
                go_wp2_with (first | (at_builtin; refine wpList_append_own _ rfl (.tmp 114) (.tmp 116) 25 rfl w.heap.size 36 i2 (.slice none 0 0) 1 24 Tryz.underlying25 HI2.out.1 HI2.out.2.1 HI2.out.2.2.1 HI2.out.2.2.2 rfl (by decide) _ _ _ rfl (HX.out.alloc _) ⟨wr.heap.size, 0, none⟩ 1 1 [.slice la L.length lc] rfl rfl (cell_one _ _ _) (by intro u hu; simp at hu; subst hu; rfl) hxl1 hxl2 (by simp; omega) ?_; intro v6 W6 hown6 hgrow6 hnil6; obtain ⟨xa6, xc6, rfl⟩ := sl_of_own hown6; have hb6 := HLK.out.kept6 HPG.out.1 hgrow6; obtain ⟨x61, x62⟩ := box_cells hb6))
                refine ⟨⟨k + 1, xa6, evs.length + 1, xc6, evs ++ [.slice la L.length lc], by omega, by go_num, HK2, ?_, ?_⟩, by simp [intOf]; omega⟩
                · exact ((HLK.out).step hc HPG.out.1 ⟨HPG.out.2.1.1, HPG.out.2.1.2.1, by omega⟩ (by rw [HRE.out]; exact own_mono hown (by omega)) hgrow6 (by rw [List.length_append]; exact hown6)).box
                · exact (HLK.out).step hc HPG.out.1 ⟨HPG.out.2.1.1, HPG.out.2.1.2.1, by omega⟩ (by rw [HRE.out]; exact own_mono hown (by omega)) hgrow6 (by rw [List.length_append]; exact hown6)
              | false =>
                cases hd2 : (c.n.does.toList == [114, 101, 116, 117, 114, 110]) with
                | true =>
                  have HRE : Hid (redg cl k c.n = L) := by
                    show _ = _
                    unfold redg
                    rw [HL.out, show falls c.n = false by unfold falls; simp [hd1, hd2]]; simp
                  have HK2 : Hid (rlkTo cl (k + 1) = true) := by
                    show _ = _
                    rw [rlkTo, HR.out, hc]; exact and_true_of rfl (not_bad HN.out (by rw [HL.out]; exact HNB.out) (by unfold falls; simp [hd1, hd2]))
                  go_wp2_with (first | (at_builtin; refine wpList_append_own _ rfl (.tmp 114) (.tmp 116) 25 rfl w.heap.size 36 i2 (.slice none 0 0) 1 24 Tryz.underlying25 HI2.out.1 HI2.out.2.1 HI2.out.2.2.1 HI2.out.2.2.2 rfl (by decide) _ _ _ rfl (HX.out.alloc _) ⟨wr.heap.size, 0, none⟩ 1 1 [.slice la L.length lc] rfl rfl (cell_one _ _ _) (by intro u hu; simp at hu; subst hu; rfl) hxl1 hxl2 (by simp; omega) ?_; intro v6 W6 hown6 hgrow6 hnil6; obtain ⟨xa6, xc6, rfl⟩ := sl_of_own hown6; have hb6 := HLK.out.kept6 HPG.out.1 hgrow6; obtain ⟨x61, x62⟩ := box_cells hb6))
                  refine ⟨⟨k + 1, xa6, evs.length + 1, xc6, evs ++ [.slice la L.length lc], by omega, by go_num, HK2, ?_, ?_⟩, by simp [intOf]; omega⟩
                  · exact ((HLK.out).step hc HPG.out.1 ⟨HPG.out.2.1.1, HPG.out.2.1.2.1, by omega⟩ (by rw [HRE.out]; exact own_mono hown (by omega)) hgrow6 (by rw [List.length_append]; exact hown6)).box
                  · exact (HLK.out).step hc HPG.out.1 ⟨HPG.out.2.1.1, HPG.out.2.1.2.1, by omega⟩ (by rw [HRE.out]; exact own_mono hown (by omega)) hgrow6 (by rw [List.length_append]; exact hown6)
                | false =>
                  by_cases hlast : k + 1 = cl.length
                  · have HB : Hid (rlk cl = false) := by
                      refine rlk_bad hc ?_
                      unfold rbad
                      rw [show falls c.n = true by unfold falls; simp [hd1, hd2]]; simp [hlast]
                    have hli : ((k : Int) == (cl.length : Int) - 1) = true := by rw [beq_iff_eq]; omega
                    go_wp2_with fail
                    go_ret
                    exact ⟨ret_bool HB.out.symm, (by rw [HB.out]; exact fun h => by cases h), RF.then hbF hbl⟩
                  · have hli : ((k : Int) == (cl.length : Int) - 1) = false := by rw [beq_eq_false_iff_ne]; omega
                    have HRE : Hid (redg cl k c.n = L ++ [(k : Int) + 1]) := by
                      show _ = _
                      unfold redg
                      rw [HL.out, show falls c.n = true by unfold falls; simp [hd1, hd2]]; simp
                    have HK2 : Hid (rlkTo cl (k + 1) = true) := by
                      show _ = _
                      rw [rlkTo, HR.out, hc]; exact and_true_of rfl (not_bad HN.out (by rw [HL.out]; exact HNB.out) (by simp [hlast]))
                    go_wp2_with (first
                      | (at_builtin; refine wpList_append_own _ rfl (.tmp 105) (.tmp 108) 36 rfl W1.heap.size 3 i1 (.int .i64 0) 1 8 Tryz.underlying36 HI.out.1 HI.out.2.1 HI.out.2.2.1 HI.out.2.2.2 rfl (by decide) _ _ _ rfl (hown.alloc _) ⟨wr.heap.size, 0, none⟩ 1 1 [.int .i64 ((k : Int) + 1)] rfl rfl (cell_one _ _ _) (by intro u hu; simp at hu; subst hu; rfl) (by unfold maxLen; omega) (by omega) (by have := hbl.size; simp; omega) ?_; intro v4 W4 hown4 hgrow4 hnil4; obtain ⟨la4, lc4, rfl⟩ := sl_of_own hown4; have hb4 : Below W1.heap.size W1 W4 := (hbl.alloc hbl.size _).grown hgrow4 (by have := hbl.size; simp; omega) (fun q hq => (hown.lt q hq).1); have HLK4 : Hid (LkS w pb g cap (.slice va vl vc) cl k (.slice xa xl xc) evs W4) := HLK1.out.below hb4; have HX4 : Hid (W4.ownsRow w.heap.size 36 1 (.slice xa xl xc) evs.length evs) := HLK4.out.next; have hw4 : w.heap.size ≤ W4.heap.size := HLK4.out.rf.size; obtain ⟨x41, x42⟩ := box_cells HLK4.out.box)
                      | (at_builtin; refine wpList_append_own _ rfl (.tmp 114) (.tmp 116) 25 rfl w.heap.size 36 i2 (.slice none 0 0) 1 24 Tryz.underlying25 HI2.out.1 HI2.out.2.1 HI2.out.2.2.1 HI2.out.2.2.2 rfl (by decide) _ _ _ rfl (HX4.out.alloc _) ⟨W4.heap.size, 0, none⟩ 1 1 [.slice la4 (L.length + 1) lc4] rfl rfl (cell_one _ _ _) (by intro u hu; simp at hu; subst hu; rfl) hxl1 hxl2 (by simp; omega) ?_; intro v6 W6 hown6 hgrow6 hnil6; obtain ⟨xa6, xc6, rfl⟩ := sl_of_own hown6; have hb6 := HLK4.out.kept6 HPG.out.1 hgrow6; obtain ⟨x61, x62⟩ := box_cells hb6))
                    refine ⟨⟨k + 1, xa6, evs.length + 1, xc6, evs ++ [.slice la4 (L.length + 1) lc4], by omega, by go_num, HK2, ?_, ?_⟩, by simp [intOf]; omega⟩
                    · exact ((HLK4.out).step hc HPG.out.1 ⟨HPG.out.2.1.1, HPG.out.2.1.2.1, by omega⟩ (by rw [HRE.out, List.length_append, List.map_append]; exact own_mono hown4 (by omega)) hgrow6 (by rw [List.length_append]; exact hown6)).box
                    · exact (HLK4.out).step hc HPG.out.1 ⟨HPG.out.2.1.1, HPG.out.2.1.2.1, by omega⟩ (by rw [HRE.out, List.length_append, List.map_append]; exact own_mono hown4 (by omega)) hgrow6 (by rw [List.length_append]; exact hown6)
            | false =>
              have hL0 : ((L.length : Int) == 0) = false := by
                rw [hg] at hbad
                cases L with
                | nil => simp at hbad
                | cons a b => rw [beq_eq_false_iff_ne]; simp; omega
              clear hbad
              cases hd1 : (c.n.does.toList == [103, 111, 116, 111]) with
              | true =>
                have HRE : Hid (redg cl k c.n = L) := by
                  show _ = _
                  unfold redg
                  rw [HL.out, show falls c.n = false by unfold falls; simp [hd1]]; simp
                have HK2 : Hid (rlkTo cl (k + 1) = true) := by
                  show _ = _
                  rw [rlkTo, HR.out, hc]; exact and_true_of rfl (not_bad HN.out (by rw [HL.out]; exact HNB.out) (by unfold falls; simp [hd1]))
                go_wp2_with (first | (at_builtin; refine wpList_append_own _ rfl (.tmp 114) (.tmp 116) 25 rfl w.heap.size 36 i2 (.slice none 0 0) 1 24 Tryz.underlying25 HI2.out.1 HI2.out.2.1 HI2.out.2.2.1 HI2.out.2.2.2 rfl (by decide) _ _ _ rfl (HX.out.alloc _) ⟨wr.heap.size, 0, none⟩ 1 1 [.slice la L.length lc] rfl rfl (cell_one _ _ _) (by intro u hu; simp at hu; subst hu; rfl) hxl1 hxl2 (by simp; omega) ?_; intro v6 W6 hown6 hgrow6 hnil6; obtain ⟨xa6, xc6, rfl⟩ := sl_of_own hown6; have hb6 := HLK.out.kept6 HPG.out.1 hgrow6; obtain ⟨x61, x62⟩ := box_cells hb6))
                refine ⟨⟨k + 1, xa6, evs.length + 1, xc6, evs ++ [.slice la L.length lc], by omega, by go_num, HK2, ?_, ?_⟩, by simp [intOf]; omega⟩
                · exact ((HLK.out).step hc HPG.out.1 ⟨HPG.out.2.1.1, HPG.out.2.1.2.1, by omega⟩ (by rw [HRE.out]; exact own_mono hown (by omega)) hgrow6 (by rw [List.length_append]; exact hown6)).box
                · exact (HLK.out).step hc HPG.out.1 ⟨HPG.out.2.1.1, HPG.out.2.1.2.1, by omega⟩ (by rw [HRE.out]; exact own_mono hown (by omega)) hgrow6 (by rw [List.length_append]; exact hown6)
              | false =>
                cases hd2 : (c.n.does.toList == [114, 101, 116, 117, 114, 110]) with
                | true =>
                  have HRE : Hid (redg cl k c.n = L) := by
                    show _ = _
                    unfold redg
                    rw [HL.out, show falls c.n = false by unfold falls; simp [hd1, hd2]]; simp
                  have HK2 : Hid (rlkTo cl (k + 1) = true) := by
                    show _ = _
                    rw [rlkTo, HR.out, hc]; exact and_true_of rfl (not_bad HN.out (by rw [HL.out]; exact HNB.out) (by unfold falls; simp [hd1, hd2]))
                  go_wp2_with (first | (at_builtin; refine wpList_append_own _ rfl (.tmp 114) (.tmp 116) 25 rfl w.heap.size 36 i2 (.slice none 0 0) 1 24 Tryz.underlying25 HI2.out.1 HI2.out.2.1 HI2.out.2.2.1 HI2.out.2.2.2 rfl (by decide) _ _ _ rfl (HX.out.alloc _) ⟨wr.heap.size, 0, none⟩ 1 1 [.slice la L.length lc] rfl rfl (cell_one _ _ _) (by intro u hu; simp at hu; subst hu; rfl) hxl1 hxl2 (by simp; omega) ?_; intro v6 W6 hown6 hgrow6 hnil6; obtain ⟨xa6, xc6, rfl⟩ := sl_of_own hown6; have hb6 := HLK.out.kept6 HPG.out.1 hgrow6; obtain ⟨x61, x62⟩ := box_cells hb6))
                  refine ⟨⟨k + 1, xa6, evs.length + 1, xc6, evs ++ [.slice la L.length lc], by omega, by go_num, HK2, ?_, ?_⟩, by simp [intOf]; omega⟩
                  · exact ((HLK.out).step hc HPG.out.1 ⟨HPG.out.2.1.1, HPG.out.2.1.2.1, by omega⟩ (by rw [HRE.out]; exact own_mono hown (by omega)) hgrow6 (by rw [List.length_append]; exact hown6)).box
                  · exact (HLK.out).step hc HPG.out.1 ⟨HPG.out.2.1.1, HPG.out.2.1.2.1, by omega⟩ (by rw [HRE.out]; exact own_mono hown (by omega)) hgrow6 (by rw [List.length_append]; exact hown6)
                | false =>
                  by_cases hlast : k + 1 = cl.length
                  · have HB : Hid (rlk cl = false) := by
                      refine rlk_bad hc ?_
                      unfold rbad
                      rw [show falls c.n = true by unfold falls; simp [hd1, hd2]]; simp [hlast]
                    have hli : ((k : Int) == (cl.length : Int) - 1) = true := by rw [beq_iff_eq]; omega
                    go_wp2_with fail
                    go_ret
                    exact ⟨ret_bool HB.out.symm, (by rw [HB.out]; exact fun h => by cases h), RF.then hbF hbl⟩
                  · have hli : ((k : Int) == (cl.length : Int) - 1) = false := by rw [beq_eq_false_iff_ne]; omega
                    have HRE : Hid (redg cl k c.n = L ++ [(k : Int) + 1]) := by
                      show _ = _
                      unfold redg
                      rw [HL.out, show falls c.n = true by unfold falls; simp [hd1, hd2]]; simp
                    have HK2 : Hid (rlkTo cl (k + 1) = true) := by
                      show _ = _
                      rw [rlkTo, HR.out, hc]; exact and_true_of rfl (not_bad HN.out (by rw [HL.out]; exact HNB.out) (by simp [hlast]))
                    go_wp2_with (first
                      | (at_builtin; refine wpList_append_own _ rfl (.tmp 105) (.tmp 108) 36 rfl W1.heap.size 3 i1 (.int .i64 0) 1 8 Tryz.underlying36 HI.out.1 HI.out.2.1 HI.out.2.2.1 HI.out.2.2.2 rfl (by decide) _ _ _ rfl (hown.alloc _) ⟨wr.heap.size, 0, none⟩ 1 1 [.int .i64 ((k : Int) + 1)] rfl rfl (cell_one _ _ _) (by intro u hu; simp at hu; subst hu; rfl) (by unfold maxLen; omega) (by omega) (by have := hbl.size; simp; omega) ?_; intro v4 W4 hown4 hgrow4 hnil4; obtain ⟨la4, lc4, rfl⟩ := sl_of_own hown4; have hb4 : Below W1.heap.size W1 W4 := (hbl.alloc hbl.size _).grown hgrow4 (by have := hbl.size; simp; omega) (fun q hq => (hown.lt q hq).1); have HLK4 : Hid (LkS w pb g cap (.slice va vl vc) cl k (.slice xa xl xc) evs W4) := HLK1.out.below hb4; have HX4 : Hid (W4.ownsRow w.heap.size 36 1 (.slice xa xl xc) evs.length evs) := HLK4.out.next; have hw4 : w.heap.size ≤ W4.heap.size := HLK4.out.rf.size; obtain ⟨x41, x42⟩ := box_cells HLK4.out.box)
                      | (at_builtin; refine wpList_append_own _ rfl (.tmp 114) (.tmp 116) 25 rfl w.heap.size 36 i2 (.slice none 0 0) 1 24 Tryz.underlying25 HI2.out.1 HI2.out.2.1 HI2.out.2.2.1 HI2.out.2.2.2 rfl (by decide) _ _ _ rfl (HX4.out.alloc _) ⟨W4.heap.size, 0, none⟩ 1 1 [.slice la4 (L.length + 1) lc4] rfl rfl (cell_one _ _ _) (by intro u hu; simp at hu; subst hu; rfl) hxl1 hxl2 (by simp; omega) ?_; intro v6 W6 hown6 hgrow6 hnil6; obtain ⟨xa6, xc6, rfl⟩ := sl_of_own hown6; have hb6 := HLK4.out.kept6 HPG.out.1 hgrow6; obtain ⟨x61, x62⟩ := box_cells hb6))
                    refine ⟨⟨k + 1, xa6, evs.length + 1, xc6, evs ++ [.slice la4 (L.length + 1) lc4], by omega, by go_num, HK2, ?_, ?_⟩, by simp [intOf]; omega⟩
                    · exact ((HLK4.out).step hc HPG.out.1 ⟨HPG.out.2.1.1, HPG.out.2.1.2.1, by omega⟩ (by rw [HRE.out, List.length_append, List.map_append]; exact own_mono hown4 (by omega)) hgrow6 (by rw [List.length_append]; exact hown6)).box
                    · exact (HLK4.out).step hc HPG.out.1 ⟨HPG.out.2.1.1, HPG.out.2.1.2.1, by omega⟩ (by rw [HRE.out, List.length_append, List.map_append]; exact own_mono hown4 (by omega)) hgrow6 (by rw [List.length_append]; exact hown6)
    · obtain rfl : k = cl.length := by omega
      go_wp2_with fail
      go_ret
      exact ⟨ret_bool HR.out.symm, fun _ => ⟨_, evs, HH.out⟩, hf⟩
end Go.Proofs.YtmipbiligijcpaaGreatDoor
