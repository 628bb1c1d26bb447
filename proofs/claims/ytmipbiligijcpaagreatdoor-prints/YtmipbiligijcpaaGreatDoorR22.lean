/- The document's answer: parsing, its lines. -/
import Derived.Test.YtmipbiligijcpaaGreatDoorR21
namespace Go.Proofs.YtmipbiligijcpaaGreatDoor
set_option linter.unusedVariables false
set_option linter.unusedSimpArgs false
open Go.RowKit Go.Proofs Go.Maps

/-- the lines that are left, when the reader stands at k and the line began at fr -/
def InvL (s : ByteArray) (k fr : Nat) (rest : List ByteArray) : Prop :=
  if k ≤ s.size then rest.map (·.data.toList) = Wm.lns (Wm.sub s.data.toList fr k) (s.data.toList.drop k) else rest = []
theorem invL_start (s : ByteArray) : InvL s 0 0 (lnB s) := by
  unfold InvL
  rw [if_pos (Nat.zero_le _), Wm.sub_self, List.drop_zero]
  exact Wm.lines_eq s
theorem invL_non (s : ByteArray) (k fr : Nat) (rest : List ByteArray) (hk : k < s.size) (hf : fr ≤ k) (hb : ((s[k].toNat : Int) == 10) = false) (h : InvL s k fr rest) : InvL s (k + 1) fr rest := by
  unfold InvL at h ⊢
  rw [if_pos (by omega)] at h
  rw [if_pos (by omega), h, drop_cons s k hk, Wm.sub_grow s.data.toList fr k (k + 1) hf (by omega), sub_one s k hk]
  have : s[k] ≠ 10 := by intro e; rw [e] at hb; exact absurd hb (by decide)
  rw [Wm.lns]
  simp [this]
theorem invL_sep (s : ByteArray) (k fr : Nat) (rest : List ByteArray) (hk : k ≤ s.size) (hf : fr ≤ k) (hb : ∀ h : k < s.size, ((s[k].toNat : Int) == 10) = true) (h : InvL s k fr rest) : ∃ r, rest = s.extract fr k :: r ∧ InvL s (k + 1) (k + 1) r := by
  have hln := Wm.len_data s
  unfold InvL at h
  rw [if_pos hk] at h
  by_cases hlt : k < s.size
  · have h10 : s[k] = 10 := by
      have := hb hlt
      rw [beq_iff_eq] at this
      exact UInt8.toNat.inj (by have e : (10 : UInt8).toNat = 10 := rfl; omega)
    rw [drop_cons s k hlt, Wm.lns] at h
    simp only [h10, if_true] at h
    match rest, h with
    | x :: r, h =>
      simp only [List.map_cons, List.cons.injEq] at h
      refine ⟨r, ?_, ?_⟩
      · rw [data_inj (a := x) (b := s.extract fr k) (by rw [extract_sub]; exact h.1)]
      · unfold InvL
        rw [if_pos (by omega), Wm.sub_self]; exact h.2
  · obtain rfl : k = s.size := by omega
    rw [show s.data.toList.drop s.size = [] from List.drop_eq_nil_of_le (by omega), Wm.lns] at h
    match rest, h with
    | x :: r, h =>
      simp only [List.map_cons, List.cons.injEq, List.map_eq_nil_iff] at h
      refine ⟨r, ?_, ?_⟩
      · rw [data_inj (a := x) (b := s.extract fr s.size) (by rw [extract_sub]; exact h.1)]
      · unfold InvL
        rw [if_neg (by omega)]; exact h.2
theorem saysNo_int (w0 : ByteArray) (r : List ByteArray) (h : 0 < w0.size) : saysNo (w0 :: r) = ((w0[0].toNat : Int) == 35) := by
  unfold saysNo
  simp only
  rw [Wm.cons_data w0 h]
  simp only
  rw [Bool.eq_iff_iff, beq_iff_eq, beq_iff_eq]
  constructor
  · intro e; rw [e]; rfl
  · intro e; exact UInt8.toNat.inj (by have e2 : (35 : UInt8).toNat = 35 := rfl; omega)
theorem last_data (s : ByteArray) (h : 0 < s.size) : s.data.toList = (s.extract 0 (s.size - 1)).data.toList ++ [s[s.size - 1]] := by
  rw [extract_sub]
  have hln := Wm.len_data s
  have e := Wm.take_snoc s (s.size - 1) (by omega)
  rw [show s.size - 1 + 1 = s.size by omega, List.take_of_length_le (by omega)] at e
  simp only [Wm.sub, List.drop_zero, Nat.sub_zero]
  exact e
theorem colB_int (s : ByteArray) (h : 0 < s.size) : colB s = ((s[s.size - 1].toNat : Int) == 58) := by
  unfold colB Lib.hasSuffix
  have e := last_data s h
  rw [Bool.eq_iff_iff, beq_iff_eq, List.isSuffixOf_iff_suffix, e]
  constructor
  · rintro ⟨t, ht⟩
    have := (List.append_inj' ht rfl).2
    simp only [List.cons.injEq, and_true] at this
    rw [← this]; rfl
  · intro h2
    have : s[s.size - 1] = 58 := UInt8.toNat.inj (by have e2 : (58 : UInt8).toNat = 58 := rfl; omega)
    rw [this]
    exact ⟨_, rfl⟩
theorem labD_ext (s : ByteArray) (h : 0 < s.size) (hc : colB s = true) : labD s = s.extract 0 (s.size - 1) := by
  have hln := Wm.len_data s
  apply data_inj
  rw [extract_sub]
  show Lib.trimSuffix s.data.toList [58] = _
  unfold Lib.trimSuffix
  rw [if_pos (show Lib.hasSuffix s.data.toList [58] = true from hc)]
  simp [Wm.sub]

structure RRep (w : World) (c : RC) (p : PN) : Prop where
  rel : RelC c p
  ws : ∃ g off, c.wa = some ⟨g, off, none⟩ ∧ Ws w g off p.ws
  wl : c.wl = p.ws.length
structure RReps (w : World) (cl : List RC) (pl : List PN) : Prop where
  len : cl.length = pl.length
  each : ∀ (j : Nat) (c : RC) (p : PN), cl[j]? = some c → pl[j]? = some p → RRep w c p
theorem RReps.rel {w : World} {cl : List RC} {pl : List PN} (h : RReps w cl pl) : RelL cl pl := ⟨h.len, fun j c p a b => (h.each j c p a b).rel⟩
theorem RRep.mono {w w' : World} {c : RC} {p : PN} (h : RRep w c p) (hw : ∀ g off ws, Ws w g off ws → Ws w' g off ws) : RRep w' c p := by
  obtain ⟨g, off, h1, h2⟩ := h.ws
  exact ⟨h.rel, ⟨g, off, h1, hw _ _ _ h2⟩, h.wl⟩
theorem RReps.mono {w w' : World} {cl : List RC} {pl : List PN} (h : RReps w cl pl) (hw : ∀ g off ws, Ws w g off ws → Ws w' g off ws) : RReps w' cl pl :=
  ⟨h.len, fun j c p a b => (h.each j c p a b).mono hw⟩
theorem RReps.snoc {w : World} {cl : List RC} {pl : List PN} {c : RC} {p : PN} (h : RReps w cl pl) (hc : RRep w c p) : RReps w (cl ++ [c]) (pl ++ [p]) := by
  refine ⟨by simp [h.len], fun j a b ha hb => ?_⟩
  by_cases hj : j < cl.length
  · rw [List.getElem?_append_left hj] at ha
    rw [List.getElem?_append_left (by have := h.len; omega)] at hb
    exact h.each j a b ha hb
  · have hl := h.len
    rw [List.getElem?_append_right (by omega)] at ha
    rw [List.getElem?_append_right (by omega)] at hb
    have h0 : j - cl.length = 0 := by
      have := (List.getElem?_eq_some_iff.1 ha).1; simp at this; omega
    rw [h0] at ha
    rw [← hl, h0] at hb
    simp at ha hb
    subst ha; subst hb
    exact hc
end Go.Proofs.YtmipbiligijcpaaGreatDoor
