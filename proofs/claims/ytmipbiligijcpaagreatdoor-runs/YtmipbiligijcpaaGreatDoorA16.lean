/- A part of the proof: contracts of functions of the program. -/
import Derived.Test.YtmipbiligijcpaaGreatDoorA15
import Derived.Maps.AppendAt
import Derived.Deep.RegionLaw
import Derived.Test.YtmipbiligijcpaaGreatDoorA04
namespace Go.Proofs.YtmipbiligijcpaaGreatDoor
set_option linter.unusedVariables false
set_option linter.unusedSimpArgs false
open Go.RowKit Go.Proofs Go.Maps



theorem nc_labs (pl : List PN) : (pl.map PN.nc).map NC.lab = pl.map PN.lab := by simp [PN.nc, Function.comp_def]
theorem vnum_nn (vs : List Nam) (v : Nam) : 0 ≤ vnum vs v := by unfold vnum; split <;> omega
end Go.Proofs.YtmipbiligijcpaaGreatDoor
namespace Go.Proofs.YtmipbiligijcpaaGreatDoor
set_option linter.unusedVariables false
set_option linter.unusedSimpArgs false
open Go.RowKit Go.Proofs Go.Maps

theorem infoStr : (Tryz.prog.info? 9).map (fun i => (i.zero, i.size, i.bytes)) = some (some (.string ⟨#[]⟩), 1, 16) := by kernel_rfl
theorem extract_sub (s : ByteArray) (a b : Nat) : (s.extract a b).data.toList = Wm.sub s.data.toList a b := by
  rw [Lib.extract_data]
  simp [Wm.sub, List.take_drop]
theorem map_data_inj : ∀ {a b : List ByteArray}, a.map (·.data.toList) = b.map (·.data.toList) → a = b
  | [], [], _ => rfl
  | [], _ :: _, h => by simp at h
  | _ :: _, [], h => by simp at h
  | x :: a, y :: b, h => by
    simp only [List.map_cons, List.cons.injEq] at h
    rw [data_inj h.1, map_data_inj h.2]
theorem cutW_blank (cur r : List UInt8) (c : UInt8) (h : Wm.blk c = true) : Wm.cutW cur (c :: r) = (if cur = [] then [] else [cur]) ++ Wm.cutW [] r := by
  rw [Wm.cutW, h]
  simp only [if_true]
  split <;> simp
theorem blk_int (c : UInt8) : Wm.blk c = (((c.toNat : Int) == 32) || ((c.toNat : Int) == 9) || ((c.toNat : Int) == 13)) := by
  unfold Wm.blk
  rw [Bool.eq_iff_iff]; simp; omega
theorem drop_cons (s : ByteArray) (k : Nat) (h : k < s.size) : s.data.toList.drop k = s[k] :: s.data.toList.drop (k + 1) := by
  rw [List.drop_eq_getElem_cons (by rw [Wm.len_data]; exact h)]; rfl
theorem sub_one (s : ByteArray) (k : Nat) (h : k < s.size) : Wm.sub s.data.toList k (k + 1) = [s[k]] := by
  unfold Wm.sub; rw [drop_cons s k h]; simp

def Inv (s : ByteArray) (k fr : Nat) (acc : List ByteArray) : Prop :=
  if k ≤ s.size then acc.map (·.data.toList) ++ Wm.cutW (Wm.sub s.data.toList fr k) (s.data.toList.drop k) = Wm.cutW [] s.data.toList else acc.map (·.data.toList) = Wm.cutW [] s.data.toList
theorem inv_sep (s : ByteArray) (k fr : Nat) (acc : List ByteArray) (hk : k ≤ s.size) (hf : fr ≤ k) (hsep : ∀ h : k < s.size, Wm.blk s[k] = true) (h : Inv s k fr acc) : Inv s (k + 1) (k + 1) (if fr < k then acc ++ [s.extract fr k] else acc) := by
  have hln := Wm.len_data s
  unfold Inv at h ⊢
  rw [if_pos hk] at h
  have hsub : (if Wm.sub s.data.toList fr k = [] then ([] : List (List UInt8)) else [Wm.sub s.data.toList fr k]) = (if fr < k then [(s.extract fr k).data.toList] else []) := by
    by_cases hlt : fr < k
    · rw [if_pos hlt, if_neg (Wm.sub_ne _ _ _ hlt (by omega)), extract_sub]
    · obtain rfl : fr = k := by omega
      rw [if_neg hlt, Wm.sub_self, if_pos rfl]
  have hacc : (if fr < k then acc ++ [s.extract fr k] else acc).map (·.data.toList) = acc.map (·.data.toList) ++ (if fr < k then [(s.extract fr k).data.toList] else []) := by
    split <;> simp
  by_cases hlt : k < s.size
  · rw [if_pos (by omega), hacc, Wm.sub_self]
    rw [drop_cons s k hlt, cutW_blank _ _ _ (hsep hlt), hsub] at h
    rw [List.append_assoc]
    exact h
  · obtain rfl : k = s.size := by omega
    rw [if_neg (by omega), hacc]
    rw [show s.data.toList.drop s.size = [] from List.drop_eq_nil_of_le (by omega), Wm.cutW, hsub] at h
    exact h
theorem inv_non (s : ByteArray) (k fr : Nat) (acc : List ByteArray) (hk : k < s.size) (hf : fr ≤ k) (hb : Wm.blk s[k] = false) (h : Inv s k fr acc) : Inv s (k + 1) fr acc := by
  have hln := Wm.len_data s
  unfold Inv at h ⊢
  rw [if_pos (by omega)] at h
  rw [if_pos (by omega)]
  rw [drop_cons s k hk, Wm.cutW, hb] at h
  simp only [Bool.false_eq_true, if_false] at h
  rw [Wm.sub_grow s.data.toList fr k (k + 1) hf (by omega), sub_one s k hk]
  exact h
set_option maxHeartbeats 2000000 in
set_option maxRecDepth 100000 in
theorem rwords_any (s : ByteArray) (w : World) (hs : s.size ≤ 3000) :
    Calls Tryz.prog 67 #[.string s] w fun e w' => ∃ v, e = .returned v ∧ w'.ownsRow w.heap.size 9 1 v (wds s).length ((wds s).map Value.string) ∧ Below w.heap.size w w' := by
  obtain ⟨i0, hi, hz0, hz1, hz2⟩ := info_parts infoStr
  have HI : Hid (Tryz.prog.info? 9 = some i0 ∧ i0.zero = some (.string ⟨#[]⟩) ∧ i0.size = 1 ∧ i0.bytes = 16) := ⟨hi, hz0, hz1, hz2⟩
  clear hi hz0 hz1 hz2
  have hln := Wm.len_data s
  go_enter Tryz.func67, Tryz.ntmps67
  go_wp2
  go_loopw [3, 4, 5] (fun v f i wr => ∃ (k fr : Nat) (acc : List ByteArray), k ≤ s.size + 1 ∧ fr ≤ k ∧ i = .int .i64 k ∧ f = .int .i64 fr ∧ Hid (Inv s k fr acc) ∧ acc.length ≤ k ∧ wr.ownsRow w.heap.size 9 1 v acc.length (acc.map Value.string) ∧ Below w.heap.size w wr) (fun _ _ i _ => s.size + 1 - (intOf i).toNat)
  case atStart => exact ⟨0, 0, [], by omega, by omega, rfl, rfl, by show Inv _ _ _ _; simp [Inv, Wm.sub], by simp, World.ownsRow_nil _ _ _ _, Below.refl _ _⟩
  case round =>
    obtain ⟨k, fr, acc, hk, hfr, rfl, rfl, HA, hal, hown, hb⟩ := hrel
    have hbz := hb.size
    by_cases hle : k ≤ s.size
    · have hlei : (k : Int) ≤ (s.size : Int) := by omega
      by_cases hend : k = s.size
      · have HS : Hid (Inv s (k + 1) (k + 1) (if fr < k then acc ++ [s.extract fr k] else acc)) := inv_sep s k fr acc hle hfr (fun h => by omega) HA.out
        clear HA
        have hei : ((k : Int) == (s.size : Int)) = true := by rw [beq_iff_eq]; omega
        clear hend
        by_cases hfk : fr < k
        · have HS2 : Hid (Inv s (k + 1) (k + 1) (acc ++ [s.extract fr k])) := by have := HS.out; rw [if_pos hfk] at this; exact this
          have hfi : (fr : Int) < (k : Int) := by omega
          have hfl : (fr : Int) ≤ (k : Int) := by omega
          go_wp2_with (at_builtin; refine wpList_append_own _ rfl (.tmp 37) (.tmp 42) 101 rfl w.heap.size 9 i0 (.string ⟨#[]⟩) 1 16 Tryz.underlying101 HI.out.1 HI.out.2.1 HI.out.2.2.1 HI.out.2.2.2 rfl (by decide) _ _ _ rfl (hown.alloc _) ⟨wr.heap.size, 0, none⟩ 1 1 [.string (s.extract fr k)] rfl rfl (cell_one _ _ _) (by intro u hu; simp at hu; subst hu; rfl) (by unfold maxLen; omega) (by omega) (by simp; omega) ?_; intro v4 W4 hown4 hgrow4 hnil4)
          all_goals
            go_roundw
            case rel =>
              refine ⟨k + 1, k + 1, acc ++ [s.extract fr k], by omega, by omega, by go_num, by go_num, HS2.out, by simp; omega, ?_, (hb.alloc hbz _).grown hgrow4 (by simp; omega) (fun q hq => (hown.lt q hq).1)⟩
              rw [List.length_append, List.map_append]
              exact hown4
            case measure => simp [intOf]; omega
        · have HS2 : Hid (Inv s (k + 1) (k + 1) acc) := by have := HS.out; rw [if_neg hfk] at this; exact this
          have hfi : ¬ (fr : Int) < (k : Int) := by omega
          go_wp2
          all_goals
            go_roundw
            case rel => exact ⟨k + 1, k + 1, acc, by omega, by omega, by go_num, by go_num, HS2.out, by omega, hown, hb⟩
            case measure => simp [intOf]; omega
      · have hlt : k < s.size := by omega
        have hei : ((k : Int) == (s.size : Int)) = false := by rw [beq_eq_false_iff_ne]; omega
        have hbi := blk_int s[k]
        cases hbk : Wm.blk s[k] with
        | false =>
          have HS : Hid (Inv s (k + 1) fr acc) := inv_non s k fr acc hlt hfr hbk HA.out
          clear HA
          rw [hbk] at hbi
          have hb3 := hbi.symm
          simp only [Bool.or_eq_false_iff] at hb3
          obtain ⟨⟨b1, b2⟩, b3⟩ := hb3
          clear hbi
          go_wp2
          go_roundw
          case rel => exact ⟨k + 1, fr, acc, by omega, by omega, by go_num, rfl, HS.out, by omega, hown, hb⟩
          case measure => simp [intOf]; omega
        | true =>
        have HS : Hid (Inv s (k + 1) (k + 1) (if fr < k then acc ++ [s.extract fr k] else acc)) := inv_sep s k fr acc hle hfr (fun h => hbk) HA.out
        clear HA
        rw [hbk] at hbi
        have hb3 : Hid ((((s[k].toNat : Int) == 32) || ((s[k].toNat : Int) == 9) || ((s[k].toNat : Int) == 13)) = true) := hbi.symm
        clear hbi hbk
        cases b1 : ((s[k].toNat : Int) == 32) <;> cases b2 : ((s[k].toNat : Int) == 9) <;> cases b3 : ((s[k].toNat : Int) == 13) <;> (have hb4 := hb3.out; rw [b1, b2, b3] at hb4; clear hb3)
        all_goals first | (exfalso; simp at hb4; done) | skip
        all_goals clear hb4
        all_goals
          by_cases hfk : fr < k
          · have HS2 : Hid (Inv s (k + 1) (k + 1) (acc ++ [s.extract fr k])) := by have := HS.out; rw [if_pos hfk] at this; exact this
            have hfi : (fr : Int) < (k : Int) := by omega
            have hfl : (fr : Int) ≤ (k : Int) := by omega
            go_wp2_with (at_builtin; refine wpList_append_own _ rfl (.tmp 37) (.tmp 42) 101 rfl w.heap.size 9 i0 (.string ⟨#[]⟩) 1 16 Tryz.underlying101 HI.out.1 HI.out.2.1 HI.out.2.2.1 HI.out.2.2.2 rfl (by decide) _ _ _ rfl (hown.alloc _) ⟨wr.heap.size, 0, none⟩ 1 1 [.string (s.extract fr k)] rfl rfl (cell_one _ _ _) (by intro u hu; simp at hu; subst hu; rfl) (by unfold maxLen; omega) (by omega) (by simp; omega) ?_; intro v4 W4 hown4 hgrow4 hnil4)
            all_goals
              go_roundw
              case rel =>
                refine ⟨k + 1, k + 1, acc ++ [s.extract fr k], by omega, by omega, by go_num, by go_num, HS2.out, by simp; omega, ?_, (hb.alloc hbz _).grown hgrow4 (by simp; omega) (fun q hq => (hown.lt q hq).1)⟩
                rw [List.length_append, List.map_append]
                exact hown4
              case measure => simp [intOf]; omega
          · have HS2 : Hid (Inv s (k + 1) (k + 1) acc) := by have := HS.out; rw [if_neg hfk] at this; exact this
            have hfi : ¬ (fr : Int) < (k : Int) := by omega
            go_wp2
            all_goals
              go_roundw
              case rel => exact ⟨k + 1, k + 1, acc, by omega, by omega, by go_num, by go_num, HS2.out, by omega, hown, hb⟩
              case measure => simp [intOf]; omega
    · obtain rfl : k = s.size + 1 := by omega
      have hgt : ¬ ((s.size + 1 : Nat) : Int) ≤ (s.size : Int) := by omega
      go_wp2
      go_ret
      have e := HA.out
      unfold Inv at e
      rw [if_neg (by omega)] at e
      have : acc = wds s := map_data_inj (e.trans (wds_eq s).symm)
      subst this
      exact ⟨_, rfl, hown, hb⟩
end Go.Proofs.YtmipbiligijcpaaGreatDoor
namespace Go.Proofs.YtmipbiligijcpaaGreatDoor
set_option linter.unusedVariables false
set_option linter.unusedSimpArgs false
open Go.RowKit Go.Proofs Go.Maps

theorem rconst_none (s : ByteArray) (w : World) (h0 : s.size = 0) :
    Calls Tryz.prog 246 #[.string s] w fun e w' => e = .returned (.tuple #[.int .i64 (cstV s.data.toList), .bool (cstB s.data.toList)]) ∧ w' = w := by
  have hl : s.data.toList = [] := List.length_eq_zero_iff.1 h0
  have HN : Hid (Wm.cstL s.data.toList = none) := by show _ = _; rw [hl]; rfl
  have e0 : ((s.size : Int) == 0) = true := by rw [beq_iff_eq]; omega
  have l0 : (s.size : Int) ≤ 0 := by omega
  have d0 : decide (0 < (s.size : Int)) = false := by rw [decide_eq_false_iff_not]; omega
  clear h0 hl
  go_enter Tryz.func246, Tryz.ntmps246
  go_wp2
  go_ret2
  exact ⟨ret_ib (by simp [cstV, HN.out]) (by simp [cstB, HN.out]), rfl⟩
theorem rconst_any (s : ByteArray) (w : World) (hs : s.size ≤ 3000) :
    Calls Tryz.prog 246 #[.string s] w fun e w' => e = .returned (.tuple #[.int .i64 (cstV s.data.toList), .bool (cstB s.data.toList)]) ∧ w' = w := by
  by_cases h0 : s.size = 0
  · exact rconst_none s w h0
  · cases h : ((s[0].toNat : Int) == 45) with
    | true => exact rconst_neg s w hs (by omega) h
    | false => exact rconst_pos s w hs (by omega) h

def strOf (l : Nam) : Value := .string ⟨l.toArray⟩
/-- block pb is the document's program: its variables vs lie in block vb (none: there are none) -/
structure Rp (w : World) (pb B : Nat) (nv xv : Value) (vs : List Nam) (vb : Option Nat) : Prop where
  box : ∃ vv, w.heap[pb]? = some (.cells #[nv, vv, xv] 107 (0, 0)) ∧ w.ownsRow B 9 1 vv vs.length (vs.map strOf) ∧ vv.ownBlock = vb
  nodup : vs.Nodup
/-- what may have turned: the program's block, its variables' row -/
structure RF (pb : Nat) (vb : Option Nat) (w w' : World) : Prop where
  os : w'.os = w.os
  tape : w'.tape = w.tape
  output : w'.output = w.output
  size : w.heap.size ≤ w'.heap.size
  block : ∀ k, k < w.heap.size → k ≠ pb → some k ≠ vb → w'.heap[k]? = w.heap[k]?
def newer (w : World) (vb vb' : Option Nat) : Prop := vb' = vb ∨ ∃ k, vb' = some k ∧ w.heap.size ≤ k
theorem RF.refl (pb : Nat) (vb : Option Nat) (w : World) : RF pb vb w w := ⟨rfl, rfl, rfl, Nat.le_refl _, fun _ _ _ _ => rfl⟩
theorem RF.trans {pb : Nat} {vb vb' : Option Nat} {u v w : World} (h : RF pb vb u v) (hn : newer u vb vb') (k : RF pb vb' v w) : RF pb vb u w := by
  refine ⟨k.os.trans h.os, k.tape.trans h.tape, k.output.trans h.output, Nat.le_trans h.size k.size, fun j hj h1 h2 => ?_⟩
  refine (k.block j (Nat.lt_of_lt_of_le hj h.size) h1 ?_).trans (h.block j hj h1 h2)
  rcases hn with rfl | ⟨q, rfl, hq⟩
  · exact h2
  · simp; omega
theorem newer.trans {u v : World} {a b c : Option Nat} (h : newer u a b) (hs : u.heap.size ≤ v.heap.size) (k : newer v b c) : newer u a c := by
  rcases k with rfl | ⟨q, rfl, hq⟩
  · exact h
  · exact Or.inr ⟨q, rfl, by omega⟩
theorem RF.of_below {pb : Nat} {vb : Option Nat} {w w' : World} (h : Below w.heap.size w w') : RF pb vb w w' := ⟨h.os, h.tape, h.output, h.size, fun k hk _ _ => h.block k hk⟩
theorem RF.alloc {pb : Nat} {vb : Option Nat} (w : World) (o : Obj) : RF pb vb w (w.alloc o) := RF.of_below ((Below.refl _ _).alloc (Nat.le_refl _) _)
theorem RF.set {pb : Nat} {vb : Option Nat} {u w : World} (h : RF pb vb u w) {a : Addr} (ha : u.heap.size ≤ a.block) (v : Value) : RF pb vb u (w.setCell a v) :=
  ⟨h.os, h.tape, h.output, by simpa [World.setCell] using h.size, fun k hk h1 h2 => (Below.heap_setCell _ _ _ _ (by omega)).trans (h.block k hk h1 h2)⟩
theorem RF.of_alloc {pb : Nat} {vb : Option Nat} {w w' : World} {o : Obj} (h : RF pb vb (w.alloc o) w') : RF pb vb w w' := (RF.alloc w o).trans (Or.inl rfl) h
theorem Rp.lt {w : World} {pb B : Nat} {nv xv : Value} {vs : List Nam} {vb : Option Nat} (h : Rp w pb B nv xv vs vb) : pb < w.heap.size := by
  obtain ⟨vv, hb, _⟩ := h.box
  exact (Array.getElem?_eq_some_iff.1 hb).1
theorem Rp.vlt {w : World} {pb B : Nat} {nv xv : Value} {vs : List Nam} {vb : Option Nat} (h : Rp w pb B nv xv vs vb) : ∀ k, vb = some k → B ≤ k ∧ k < w.heap.size := by
  obtain ⟨vv, _, ho, rfl⟩ := h.box
  exact fun k hk => ho.lt k hk
theorem Rp.of_blocks {w w' : World} {pb B : Nat} {nv xv : Value} {vs : List Nam} {vb : Option Nat} (h : Rp w pb B nv xv vs vb) (h1 : w'.heap[pb]? = w.heap[pb]?) (h2 : ∀ k, vb = some k → w'.heap[k]? = w.heap[k]?) : Rp w' pb B nv xv vs vb := by
  obtain ⟨vv, hb, ho, hv⟩ := h.box
  refine ⟨⟨vv, h1.trans hb, ⟨ho.1, ?_⟩, hv⟩, h.nodup⟩
  rcases ho.2 with a | ⟨g, cap, cur, e, c1, c2, c3⟩
  · exact Or.inl a
  · refine Or.inr ⟨g, cap, cur, e, c1, (h2 g ?_).trans c2, c3⟩
    rw [← hv, e]; rfl
theorem Rp.below {w w' : World} {pb B : Nat} {nv xv : Value} {vs : List Nam} {vb : Option Nat} (h : Rp w pb B nv xv vs vb) (hb : Below w.heap.size w w') : Rp w' pb B nv xv vs vb :=
  h.of_blocks (hb.block pb h.lt) (fun k hk => hb.block k (h.vlt k hk).2)
theorem Rp.alloc {w : World} {pb B : Nat} {nv xv : Value} {vs : List Nam} {vb : Option Nat} (h : Rp w pb B nv xv vs vb) (o : Obj) : Rp (w.alloc o) pb B nv xv vs vb := h.below ((Below.refl _ _).alloc (Nat.le_refl _) _)
theorem Rp.set {w : World} {pb B : Nat} {nv xv : Value} {vs : List Nam} {vb : Option Nat} (h : Rp w pb B nv xv vs vb) {a : Addr} (h1 : a.block ≠ pb) (h2 : some a.block ≠ vb) (v : Value) : Rp (w.setCell a v) pb B nv xv vs vb :=
  h.of_blocks (Below.heap_setCell _ _ _ _ (Ne.symm h1)) (fun k hk => Below.heap_setCell _ _ _ _ (fun e => h2 (by rw [hk, e])))
theorem Ws.rf {w w' : World} {pb B g off : Nat} {nv xv : Value} {vs : List Nam} {vb : Option Nat} {ws : List ByteArray} (h : Ws w g off ws) (hp : Rp w pb B nv xv vs vb) (hv : some g ≠ vb) (hf : RF pb vb w w') : Ws w' g off ws := by
  refine h.of_block (hf.block g h.lt ?_ hv)
  rintro rfl
  obtain ⟨vv, hb, _⟩ := hp.box
  obtain ⟨cur, hc, _⟩ := h
  rw [hc] at hb
  simp at hb
theorem newer.ne {w : World} {vb vb' : Option Nat} {g : Nat} (h : newer w vb vb') (hg : g < w.heap.size) (hv : some g ≠ vb) : some g ≠ vb' := by
  rcases h with rfl | ⟨q, rfl, hq⟩
  · exact hv
  · simp; omega

theorem str_eq (a : ByteArray) (l : Nam) : (a.toList == (ByteArray.mk l.toArray).toList) = (a.data.toList == l) := by
  rw [ByteArray.toList_eq, ByteArray.toList_eq]
theorem idx_of {vs : List Nam} {x : Nam} {k : Nat} (hd : vs.Nodup) (hk : k < vs.length) (h2 : vs[k] = x) : vs.idxOf x = k := by
  have hm : x ∈ vs := h2 ▸ List.getElem_mem hk
  have h3 := List.idxOf_lt_length_of_mem hm
  have h4 := List.getElem_idxOf h3
  rw [List.nodup_iff_pairwise_ne, List.pairwise_iff_getElem] at hd
  rcases Nat.lt_trichotomy (vs.idxOf x) k with h | h | h
  · exact absurd (h4.trans h2.symm) (hd _ _ h3 hk h)
  · exact h
  · exact absurd (h2.trans h4.symm) (hd _ _ hk h3 h)
end Go.Proofs.YtmipbiligijcpaaGreatDoor
