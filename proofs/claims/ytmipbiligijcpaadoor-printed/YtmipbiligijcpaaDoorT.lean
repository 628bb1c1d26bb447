/- The reader's table of variables, as a map's datum over a list of names. -/
import Derived.Test.YtmipbiligijcpaaDoorProg
import Derived.Test.YtmipbiligijcpaaDoorM
import Derived.WalkKit
import Derived.WalkSpells
import Derived.WalkLawsBesides
import Derived.Maps.OwnSet
import Derived.Maps.OwnOps
import Derived.Maps.Range
namespace Go.Proofs.YtmipbiligijcpaaDoor
set_option linter.unusedVariables false
set_option linter.unusedSimpArgs false
open Go.RowKit Go.Proofs Go.Maps
open Go.WideMaps

abbrev Nam := List UInt8
def keyL (l : Nam) : Lit := .string l
/-- the table of a list of names: each at its place (from i on) -/
def tabFrom (D : DataW Unit) (i : Nat) : List Nam → DataW Unit
  | [] => D
  | v :: r => tabFrom (D.put (keyL v) (.lit (.int .i64 i))) (i + 1) r
def tab (vs : List Nam) : DataW Unit := tabFrom (.map []) 0 vs
theorem tabFrom_snoc (v : Nam) : ∀ (l : List Nam) (D : DataW Unit) (i : Nat), tabFrom D i (l ++ [v]) = (tabFrom D i l).put (keyL v) (.lit (.int .i64 ((i + l.length : Nat) : Int)))
  | [], D, i => by simp [tabFrom]
  | x :: l, D, i => by
    rw [List.cons_append, tabFrom, tabFrom, tabFrom_snoc v l]
    congr 4
    simp; omega
theorem tab_snoc (vs : List Nam) (v : Nam) : tab (vs ++ [v]) = (tab vs).put (keyL v) (.lit (.int .i64 (vs.length : Int))) := by
  unfold tab; rw [tabFrom_snoc]; simp
theorem tab_nil : tab [] = .map [] := rfl
theorem key_lit (l : Nam) : WideAt.IsKeyLit (keyL l) := by simp [keyL, WideAt.IsKeyLit]
theorem tidy_tab (vs : List Nam) : Tidy (tab vs) := by
  suffices h : ∀ n (vs : List Nam), vs.length = n → Tidy (tab vs) from h _ vs rfl
  intro n
  induction n with
  | zero => intro vs h; rw [List.length_eq_zero_iff.1 h]; exact tidy_empty
  | succ n ih =>
    intro vs h
    obtain ⟨l, v, rfl⟩ : ∃ l v, vs = l ++ [v] := ⟨vs.dropLast, vs.getLast (by intro e; simp [e] at h), (List.dropLast_concat_getLast _).symm⟩
    rw [tab_snoc]
    exact (ih l (by simpa using h)).put (key_lit v) _
theorem keyL_inj {a b : Nam} (h : keyL a = keyL b) : a = b := by simpa [keyL] using h
theorem has_tab (vs : List Nam) (v : Nam) : Maps.has (tab vs) (keyL v) = decide (v ∈ vs) := by
  suffices h : ∀ n (vs : List Nam), vs.length = n → Maps.has (tab vs) (keyL v) = decide (v ∈ vs) from h _ vs rfl
  intro n
  induction n with
  | zero => intro vs h; rw [List.length_eq_zero_iff.1 h]; rfl
  | succ n ih =>
    intro vs h
    obtain ⟨l, x, rfl⟩ : ∃ l v, vs = l ++ [v] := ⟨vs.dropLast, vs.getLast (by intro e; simp [e] at h), (List.dropLast_concat_getLast _).symm⟩
    rw [tab_snoc]
    by_cases e : v = x
    · subst e
      rw [Maps.has_put_same (tidy_tab l).isMap (key_lit v)]; simp
    · rw [Maps.has_put_other (fun e' => e (keyL_inj e')), ih l (by simpa using h)]
      simp [e]
theorem size_tab (vs : List Nam) (hd : vs.Nodup) : Maps.size (tab vs) = vs.length := by
  suffices h : ∀ n (vs : List Nam), vs.length = n → vs.Nodup → Maps.size (tab vs) = vs.length from h _ vs rfl hd
  intro n
  induction n with
  | zero => intro vs h _; rw [List.length_eq_zero_iff.1 h]; rfl
  | succ n ih =>
    intro vs h hd
    obtain ⟨l, x, rfl⟩ : ∃ l v, vs = l ++ [v] := ⟨vs.dropLast, vs.getLast (by intro e; simp [e] at h), (List.dropLast_concat_getLast _).symm⟩
    have hn : x ∉ l := by
      rw [List.nodup_append] at hd
      exact fun hx => hd.2.2 x hx x (by simp) rfl
    rw [tab_snoc, Maps.size_put (tidy_tab l), has_tab, ih l (by simpa using h) (by rw [List.nodup_append] at hd; exact hd.1)]
    simp [hn]
theorem at_tab (vs : List Nam) (hd : vs.Nodup) (v : Nam) (hv : v ∈ vs) : (tab vs).atKey (keyL v) (.lit (.int .i64 0)) = .lit (.int .i64 (vs.idxOf v : Int)) := by
  suffices h : ∀ n (vs : List Nam), vs.length = n → vs.Nodup → v ∈ vs → (tab vs).atKey (keyL v) (.lit (.int .i64 0)) = .lit (.int .i64 (vs.idxOf v : Int)) from h _ vs rfl hd hv
  intro n
  induction n with
  | zero => intro vs h _ hv; rw [List.length_eq_zero_iff.1 h] at hv; cases hv
  | succ n ih =>
    intro vs h hd hv
    obtain ⟨l, x, rfl⟩ : ∃ l v, vs = l ++ [v] := ⟨vs.dropLast, vs.getLast (by intro e; simp [e] at h), (List.dropLast_concat_getLast _).symm⟩
    have hn : x ∉ l := by
      rw [List.nodup_append] at hd
      exact fun hx => hd.2.2 x hx x (by simp) rfl
    rw [tab_snoc]
    by_cases e : v = x
    · subst e
      rw [Maps.atKey_put_same (tidy_tab l).isMap (key_lit v), List.idxOf_append, if_neg hn]; simp
    · have hl : v ∈ l := by simpa [e] using hv
      rw [Maps.atKey_put_other (fun e' => e (keyL_inj e')), ih l (by simpa using h) (by rw [List.nodup_append] at hd; exact hd.1) hl, List.idxOf_append, if_pos hl]

/-- what a name's number is, and the names behind it -/
def vnum (vs : List Nam) (v : Nam) : Int := if v ∈ vs then (vs.idxOf v : Int) else vs.length
def vadd (vs : List Nam) (v : Nam) : List Nam := if v ∈ vs then vs else vs ++ [v]
theorem vadd_nodup {vs : List Nam} (h : vs.Nodup) (v : Nam) : (vadd vs v).Nodup := by
  unfold vadd
  split
  · exact h
  · rw [List.nodup_append]; exact ⟨h, by simp, by rintro a ha b hb rfl; simp at hb; subst hb; contradiction⟩
theorem vadd_len (vs : List Nam) (v : Nam) : (vadd vs v).length ≤ vs.length + 1 := by
  unfold vadd; split <;> simp

theorem lawS : Keyed Tryd.prog 9 := string_keyed Tryd.underlying9
theorem zeroI (w : World) : (zeroValue 3).run Tryd.prog w = .ok (.int .i64 0) w := by kernel_rfl

/-- the reader: its block rb holds the map of block mb, whose names are vs -/
structure Rd (w : World) (rb mb : Nat) (vs : List Nam) : Prop where
  box : w.heap[rb]? = some (.cells #[.map (some mb)] 46 (0, 0))
  own : w.ownsMap Tryd.prog 9 (plainElem Tryd.prog 3) mb vs.length (tab vs)
  nodup : vs.Nodup
theorem Rd.cell {w : World} {rb mb : Nat} {vs : List Nam} (h : Rd w rb mb vs) : w.cell? ⟨rb, 0, none⟩ = some (.map (some mb)) := by simp [World.cell?, h.box]
theorem Rd.isMap {w : World} {rb mb : Nat} {vs : List Nam} (h : Rd w rb mb vs) : ∃ es c, w.heap[mb]? = some (.map es c) := by
  obtain ⟨es, c, hb, _⟩ := h.own; exact ⟨es, c, hb⟩
theorem Rd.ne {w : World} {rb mb : Nat} {vs : List Nam} (h : Rd w rb mb vs) : rb ≠ mb := by
  rintro rfl
  obtain ⟨es, c, hb⟩ := h.isMap
  rw [h.box] at hb; cases hb
theorem Rd.kept {w w' : World} {rb mb : Nat} {vs : List Nam} (h : Rd w rb mb vs) (hg : w.grownBy w' none) : Rd w' rb mb vs :=
  ⟨(hg.block rb (Array.getElem?_eq_some_iff.1 h.box).1 (by simp)).trans h.box, h.own.kept hg (by simp), h.nodup⟩
theorem grown_of_below {W w1 : World} (hb : Below W.heap.size W w1) : W.grownBy w1 none := ⟨hb.os, hb.tape, hb.output, hb.size, fun k hk _ => hb.block k hk⟩

set_option maxHeartbeats 400000 in
theorem variable_any (s : ByteArray) (rb mb : Nat) (vs : List Nam) (w : World) (hs : s.size ≤ maxLen) (hn : vs.length < maxLen) (hR : Rd w rb mb vs) :
    Calls Tryd.prog 57 #[.pointer (some ⟨rb, 0, none⟩), .string s] w fun e w' =>
      e = .returned (.int .i64 (vnum vs s.data.toList)) ∧ Rd w' rb mb (vadd vs s.data.toList) ∧ w.grownBy w' (some mb) := by
  have hc := hR.cell
  have hkey : keyOf Tryd.prog 9 (.string s) = some (keyL s.data.toList) := keyOf_string_mk Tryd.underlying9 hs
  have hown := hR.own
  by_cases hm : s.data.toList ∈ vs
  · have hh : Maps.has (tab vs) (keyL s.data.toList) = true := by rw [has_tab]; simpa using hm
    go_enter Tryd.func57, Tryd.ntmps57
    go_wp2_with (first
      | (at_lookup; refine wpList_lookup_own_ok_int _ rfl _ _ 44 rfl 9 3 .i64 lawS Tryd.underlying44 Tryd.underlying3 (zeroI _) mb vs.length (tab vs) rfl hown _ _ rfl hkey ?_; intro c hat hwc))
    go_ret
    have e := hat.symm.trans (at_tab vs hR.nodup _ hm)
    simp only [DataW.lit.injEq, Lit.int.injEq, true_and] at e
    subst e
    exact ⟨by simp [vnum, hm], by simpa [vadd, hm] using hR, World.grownBy.refl _ _⟩
  · have hh : Maps.has (tab vs) (keyL s.data.toList) = false := by rw [has_tab]; simpa using hm
    have hsz := size_tab vs hR.nodup
    go_enter Tryd.func57, Tryd.ntmps57
    go_wp2_with (first
      | (at_lookup; refine wpList_lookup_own_ok_int _ rfl _ _ 44 rfl 9 3 .i64 lawS Tryd.underlying44 Tryd.underlying3 (zeroI _) mb vs.length (tab vs) rfl hown _ _ rfl hkey ?_; intro c hat hwc)
      | (at_len; refine wpList_len_own _ rfl _ 44 rfl 9 3 Tryd.underlying44 _ mb vs.length (tab vs) rfl hown ?_)
      | (at_mapUpdate; refine wpList_mapUpdate_own _ rfl _ _ _ 44 rfl 9 3 lawS Tryd.underlying44 _ mb vs.length (tab vs) rfl hown hn _ _ _ rfl rfl hkey _ [] (plainElem_int Tryd.underlying3 (WalkArith.wf_i64 (by unfold maxLen at hn; omega))) ?_; intro w1 hown1 hgrow1))
    go_ret
    refine ⟨by simp [vnum, hm], ⟨?_, ?_, vadd_nodup hR.nodup _⟩, hgrow1⟩
    · exact (hgrow1.block rb (Array.getElem?_eq_some_iff.1 hR.box).1 (by simp; exact hR.ne)).trans hR.box
    · have e : vadd vs s.data.toList = vs ++ [s.data.toList] := by simp [vadd, hm]
      rw [e, tab_snoc, List.length_append]
      exact hown1
end Go.Proofs.YtmipbiligijcpaaDoor
