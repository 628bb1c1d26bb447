/- A part of the proof: contracts of functions of the program. -/
import Derived.Test.YtmipbiligijcpaaGreatDoorProg
import Derived.Test.YtmipbiligijcpaaGreatDoorA01
import Derived.WalkKit
import Derived.WalkSpells
import Derived.WalkLawsBesides
import Derived.Maps.OwnSet
import Derived.Maps.OwnOps
import Derived.Maps.Range
namespace Go.Proofs.YtmipbiligijcpaaGreatDoor
set_option linter.unusedVariables false
set_option linter.unusedSimpArgs false
open Go.RowKit Go.Proofs Go.Maps
open Go.WideMaps

abbrev Nam := List UInt8
def keyL (l : Nam) : Lit := .string l
/-- the table of a list of names: each at its place (from i on) -/
def tabFrom (D : DataW Unit) (i : Nat) : List Nam → DataW Unit
  | [] => D
  | v :: r => tabFrom (D.put (keyL v) (.lit (.int .i64 i))) (i + 1) r
def tab (vs : List Nam) : DataW Unit := tabFrom (.map []) 0 vs
theorem tabFrom_snoc (v : Nam) : ∀ (l : List Nam) (D : DataW Unit) (i : Nat), tabFrom D i (l ++ [v]) = (tabFrom D i l).put (keyL v) (.lit (.int .i64 ((i + l.length : Nat) : Int)))
  | [], D, i => by simp [tabFrom]
  | x :: l, D, i => by
    rw [List.cons_append, tabFrom, tabFrom, tabFrom_snoc v l]
    congr 4
    simp; omega
theorem tab_snoc (vs : List Nam) (v : Nam) : tab (vs ++ [v]) = (tab vs).put (keyL v) (.lit (.int .i64 (vs.length : Int))) := by
  unfold tab; rw [tabFrom_snoc]; simp
theorem tab_nil : tab [] = .map [] := rfl
theorem key_lit (l : Nam) : WideAt.IsKeyLit (keyL l) := by simp [keyL, WideAt.IsKeyLit]
theorem tidy_tab (vs : List Nam) : Tidy (tab vs) := by
  suffices h : ∀ n (vs : List Nam), vs.length = n → Tidy (tab vs) from h _ vs rfl
  intro n
  induction n with
  | zero => intro vs h; rw [List.length_eq_zero_iff.1 h]; exact tidy_empty
  | succ n ih =>
    intro vs h
    obtain ⟨l, v, rfl⟩ : ∃ l v, vs = l ++ [v] := ⟨vs.dropLast, vs.getLast (by intro e; simp [e] at h), (List.dropLast_concat_getLast _).symm⟩
    rw [tab_snoc]
    exact (ih l (by simpa using h)).put (key_lit v) _
theorem keyL_inj {a b : Nam} (h : keyL a = keyL b) : a = b := by simpa [keyL] using h
theorem has_tab (vs : List Nam) (v : Nam) : Maps.has (tab vs) (keyL v) = decide (v ∈ vs) := by
  suffices h : ∀ n (vs : List Nam), vs.length = n → Maps.has (tab vs) (keyL v) = decide (v ∈ vs) from h _ vs rfl
  intro n
  induction n with
  | zero => intro vs h; rw [List.length_eq_zero_iff.1 h]; rfl
  | succ n ih =>
    intro vs h
    obtain ⟨l, x, rfl⟩ : ∃ l v, vs = l ++ [v] := ⟨vs.dropLast, vs.getLast (by intro e; simp [e] at h), (List.dropLast_concat_getLast _).symm⟩
    rw [tab_snoc]
    by_cases e : v = x
    · subst e
      rw [Maps.has_put_same (tidy_tab l).isMap (key_lit v)]; simp
    · rw [Maps.has_put_other (fun e' => e (keyL_inj e')), ih l (by simpa using h)]
      simp [e]
theorem size_tab (vs : List Nam) (hd : vs.Nodup) : Maps.size (tab vs) = vs.length := by
  suffices h : ∀ n (vs : List Nam), vs.length = n → vs.Nodup → Maps.size (tab vs) = vs.length from h _ vs rfl hd
  intro n
  induction n with
  | zero => intro vs h _; rw [List.length_eq_zero_iff.1 h]; rfl
  | succ n ih =>
    intro vs h hd
    obtain ⟨l, x, rfl⟩ : ∃ l v, vs = l ++ [v] := ⟨vs.dropLast, vs.getLast (by intro e; simp [e] at h), (List.dropLast_concat_getLast _).symm⟩
    have hn : x ∉ l := by
      rw [List.nodup_append] at hd
      exact fun hx => hd.2.2 x hx x (by simp) rfl
    rw [tab_snoc, Maps.size_put (tidy_tab l), has_tab, ih l (by simpa using h) (by rw [List.nodup_append] at hd; exact hd.1)]
    simp [hn]
theorem at_tab (vs : List Nam) (hd : vs.Nodup) (v : Nam) (hv : v ∈ vs) : (tab vs).atKey (keyL v) (.lit (.int .i64 0)) = .lit (.int .i64 (vs.idxOf v : Int)) := by
  suffices h : ∀ n (vs : List Nam), vs.length = n → vs.Nodup → v ∈ vs → (tab vs).atKey (keyL v) (.lit (.int .i64 0)) = .lit (.int .i64 (vs.idxOf v : Int)) from h _ vs rfl hd hv
  intro n
  induction n with
  | zero => intro vs h _ hv; rw [List.length_eq_zero_iff.1 h] at hv; cases hv
  | succ n ih =>
    intro vs h hd hv
    obtain ⟨l, x, rfl⟩ : ∃ l v, vs = l ++ [v] := ⟨vs.dropLast, vs.getLast (by intro e; simp [e] at h), (List.dropLast_concat_getLast _).symm⟩
    have hn : x ∉ l := by
      rw [List.nodup_append] at hd
      exact fun hx => hd.2.2 x hx x (by simp) rfl
    rw [tab_snoc]
    by_cases e : v = x
    · subst e
      rw [Maps.atKey_put_same (tidy_tab l).isMap (key_lit v), List.idxOf_append, if_neg hn]; simp
    · have hl : v ∈ l := by simpa [e] using hv
      rw [Maps.atKey_put_other (fun e' => e (keyL_inj e')), ih l (by simpa using h) (by rw [List.nodup_append] at hd; exact hd.1) hl, List.idxOf_append, if_pos hl]

/-- what a name's number is, and the names behind it -/
def vnum (vs : List Nam) (v : Nam) : Int := if v ∈ vs then (vs.idxOf v : Int) else vs.length
def vadd (vs : List Nam) (v : Nam) : List Nam := if v ∈ vs then vs else vs ++ [v]
theorem vadd_nodup {vs : List Nam} (h : vs.Nodup) (v : Nam) : (vadd vs v).Nodup := by
  unfold vadd
  split
  · exact h
  · rw [List.nodup_append]; exact ⟨h, by simp, by rintro a ha b hb rfl; simp at hb; subst hb; contradiction⟩
theorem vadd_len (vs : List Nam) (v : Nam) : (vadd vs v).length ≤ vs.length + 1 := by
  unfold vadd; split <;> simp

theorem lawS : Keyed Tryz.prog 9 := string_keyed Tryz.underlying9
theorem zeroI (w : World) : (zeroValue 3).run Tryz.prog w = .ok (.int .i64 0) w := by kernel_rfl

/-- the reader: its block rb holds the map of block mb, whose names are vs -/
structure Rd (w : World) (rb mb : Nat) (vs : List Nam) : Prop where
  box : w.heap[rb]? = some (.cells #[.map (some mb)] 143 (0, 0))
  own : w.ownsMap Tryz.prog 9 (plainElem Tryz.prog 3) mb vs.length (tab vs)
  nodup : vs.Nodup
theorem Rd.cell {w : World} {rb mb : Nat} {vs : List Nam} (h : Rd w rb mb vs) : w.cell? ⟨rb, 0, none⟩ = some (.map (some mb)) := by simp [World.cell?, h.box]
theorem Rd.isMap {w : World} {rb mb : Nat} {vs : List Nam} (h : Rd w rb mb vs) : ∃ es c, w.heap[mb]? = some (.map es c) := by
  obtain ⟨es, c, hb, _⟩ := h.own; exact ⟨es, c, hb⟩
theorem Rd.ne {w : World} {rb mb : Nat} {vs : List Nam} (h : Rd w rb mb vs) : rb ≠ mb := by
  rintro rfl
  obtain ⟨es, c, hb⟩ := h.isMap
  rw [h.box] at hb; cases hb
theorem Rd.kept {w w' : World} {rb mb : Nat} {vs : List Nam} (h : Rd w rb mb vs) (hg : w.grownBy w' none) : Rd w' rb mb vs :=
  ⟨(hg.block rb (Array.getElem?_eq_some_iff.1 h.box).1 (by simp)).trans h.box, h.own.kept hg (by simp), h.nodup⟩
theorem grown_of_below {W w1 : World} (hb : Below W.heap.size W w1) : W.grownBy w1 none := ⟨hb.os, hb.tape, hb.output, hb.size, fun k hk _ => hb.block k hk⟩

set_option maxHeartbeats 400000 in
theorem variable_any (s : ByteArray) (rb mb : Nat) (vs : List Nam) (w : World) (hs : s.size ≤ maxLen) (hn : vs.length < maxLen) (hR : Rd w rb mb vs) :
    Calls Tryz.prog 261 #[.pointer (some ⟨rb, 0, none⟩), .string s] w fun e w' =>
      e = .returned (.int .i64 (vnum vs s.data.toList)) ∧ Rd w' rb mb (vadd vs s.data.toList) ∧ w.grownBy w' (some mb) := by
  have hc := hR.cell
  have hkey : keyOf Tryz.prog 9 (.string s) = some (keyL s.data.toList) := keyOf_string_mk Tryz.underlying9 hs
  have hown := hR.own
  by_cases hm : s.data.toList ∈ vs
  · have hh : Maps.has (tab vs) (keyL s.data.toList) = true := by rw [has_tab]; simpa using hm
    go_enter Tryz.func261, Tryz.ntmps261
    go_wp2_with (first
      | (at_lookup; refine wpList_lookup_own_ok_int _ rfl _ _ 141 rfl 9 3 .i64 lawS Tryz.underlying141 Tryz.underlying3 (zeroI _) mb vs.length (tab vs) rfl hown _ _ rfl hkey ?_; intro c hat hwc))
    go_ret
    have e := hat.symm.trans (at_tab vs hR.nodup _ hm)
    simp only [DataW.lit.injEq, Lit.int.injEq, true_and] at e
    subst e
    exact ⟨by simp [vnum, hm], by simpa [vadd, hm] using hR, World.grownBy.refl _ _⟩
  · have hh : Maps.has (tab vs) (keyL s.data.toList) = false := by rw [has_tab]; simpa using hm
    have hsz := size_tab vs hR.nodup
    go_enter Tryz.func261, Tryz.ntmps261
    go_wp2_with (first
      | (at_lookup; refine wpList_lookup_own_ok_int _ rfl _ _ 141 rfl 9 3 .i64 lawS Tryz.underlying141 Tryz.underlying3 (zeroI _) mb vs.length (tab vs) rfl hown _ _ rfl hkey ?_; intro c hat hwc)
      | (at_len; refine wpList_len_own _ rfl _ 141 rfl 9 3 Tryz.underlying141 _ mb vs.length (tab vs) rfl hown ?_)
      | (at_mapUpdate; refine wpList_mapUpdate_own _ rfl _ _ _ 141 rfl 9 3 lawS Tryz.underlying141 _ mb vs.length (tab vs) rfl hown hn _ _ _ rfl rfl hkey _ [] (plainElem_int Tryz.underlying3 (WalkArith.wf_i64 (by unfold maxLen at hn; omega))) ?_; intro w1 hown1 hgrow1))
    go_ret
    refine ⟨by simp [vnum, hm], ⟨?_, ?_, vadd_nodup hR.nodup _⟩, hgrow1⟩
    · exact (hgrow1.block rb (Array.getElem?_eq_some_iff.1 hR.box).1 (by simp; exact hR.ne)).trans hR.box
    · have e : vadd vs s.data.toList = vs ++ [s.data.toList] := by simp [vadd, hm]
      rw [e, tab_snoc, List.length_append]
      exact hown1
end Go.Proofs.YtmipbiligijcpaaGreatDoor
namespace Go.Proofs.YtmipbiligijcpaaGreatDoor
set_option linter.unusedVariables false
set_option linter.unusedSimpArgs false
open Go.RowKit Go.Proofs Go.Maps

structure Opd where
  isVar : Bool
  var : Int
  const : Int
def opd (vs : List Nam) (s : ByteArray) : Opd := if Wm.nm s then ⟨true, vnum vs s.data.toList, 0⟩ else ⟨false, 0, cstV s.data.toList⟩
def opdB (s : ByteArray) : Bool := Wm.nm s || cstB s.data.toList
def opdA (vs : List Nam) (s : ByteArray) : List Nam := if Wm.nm s then vadd vs s.data.toList else vs
theorem opdA_len (vs : List Nam) (s : ByteArray) : (opdA vs s).length ≤ vs.length + 1 := by unfold opdA; split; exact vadd_len _ _; omega

/-- strconv.ErrRange holds an error -/
def Glob (w : World) : Prop := ∃ te pe, w.cell? ⟨5, 0, none⟩ = some (.iface te pe)
theorem Glob.kept {w w' : World} {mb : Nat} {row : Option Nat} (h : Glob w) (hm : ∃ es c, w.heap[mb]? = some (.map es c)) (hg : w.grownBy w' row) (hr : row = none ∨ row = some mb) : Glob w' := by
  obtain ⟨te, pe, hc⟩ := h
  obtain ⟨c, t, f, hb⟩ := not_map_of_cell hc
  refine ⟨te, pe, hg.cell hc ?_⟩
  rcases hr with rfl | rfl
  · simp
  · intro e
    simp only [Option.some.injEq] at e
    subst e
    obtain ⟨es, c', hm⟩ := hm
    rw [hb] at hm; cases hm

theorem Rd.grown {w w' : World} {rb mb : Nat} {vs : List Nam} (h : Rd w rb mb vs) (hb : Below w.heap.size w w') : Rd w' rb mb vs := h.kept (grown_of_below hb)
theorem grown_to {a c : World} (h : a.grownBy c none) (row : Option Nat) : a.grownBy c row := ⟨h.os, h.tape, h.output, h.size, fun i hi _ => h.block i hi (by simp)⟩

def opdV (o : Opd) : Value := .agg #[.bool o.isVar, .int .i64 o.var, .int .i64 o.const]

theorem Rd.alloc {w : World} {rb mb : Nat} {vs : List Nam} (h : Rd w rb mb vs) (o : Obj) : Rd (w.alloc o) rb mb vs := h.kept (World.grownBy_alloc _ _ _)
theorem Glob.alloc {w : World} (h : Glob w) (o : Obj) : Glob (w.alloc o) := by
  obtain ⟨te, pe, hc⟩ := h
  exact ⟨te, pe, (World.grownBy_alloc w o none).cell hc (by simp)⟩

theorem Rd.lt {w : World} {rb mb : Nat} {vs : List Nam} (h : Rd w rb mb vs) : mb < w.heap.size := h.own.lt
theorem box_grown {w w1 : World} {cs : Array Value} {t : TypeId} {row : Option Nat} (hg : (w.alloc (.cells cs t)).grownBy w1 row) (hm : ∀ k, row = some k → k < w.heap.size) : w1.heap[w.heap.size]? = some (.cells cs t (0, 0)) := by
  rw [hg.block w.heap.size (by simp) (fun e => by have := hm _ e.symm; omega)]
  exact heap_alloc_new w _

theorem grown_set {w w' : World} {row : Option Nat} (h : w.grownBy w' row) {a : Addr} (ha : w.heap.size ≤ a.block) (v : Value) : w.grownBy (w'.setCell a v) row :=
  ⟨h.os, h.tape, h.output, by simpa [World.setCell] using h.size, fun k hk hr => (Below.heap_setCell _ _ _ _ (by omega)).trans (h.block k hk hr)⟩
theorem Rd.set {w : World} {rb mb : Nat} {vs : List Nam} (h : Rd w rb mb vs) {a : Addr} (h1 : a.block ≠ rb) (h2 : a.block ≠ mb) (v : Value) : Rd (w.setCell a v) rb mb vs :=
  ⟨(Below.heap_setCell _ _ _ _ (Ne.symm h1)).trans h.box, h.own.setCell (Ne.symm h2) v, h.nodup⟩
theorem Rd.ltr {w : World} {rb mb : Nat} {vs : List Nam} (h : Rd w rb mb vs) : rb < w.heap.size := (Array.getElem?_eq_some_iff.1 h.box).1
theorem grown_of_alloc {w w' : World} {o : Obj} {row : Option Nat} (h : (w.alloc o).grownBy w' row) : w.grownBy w' row := (World.grownBy_alloc w o row).trans h

set_option maxHeartbeats 400000 in
theorem operand_any (s : ByteArray) (rb mb : Nat) (vs : List Nam) (w : World) (hs : s.size ≤ 3000) (hn : vs.length < maxLen) (hR : Rd w rb mb vs) (hG : Glob w) :
    Calls Tryz.prog 259 #[.pointer (some ⟨rb, 0, none⟩), .string s] w fun e w' =>
      e = .returned (.tuple #[opdV (opd vs s), .bool (opdB s)]) ∧ Rd w' rb mb (opdA vs s) ∧ w.grownBy w' (some mb) := by
  have hm : s.size ≤ maxLen := by unfold maxLen; omega
  have h1 := hR.lt
  have h2 := hR.ltr
  cases hnm : Wm.nm s with
  | true =>
    go_enter Tryz.func259, Tryz.ntmps259
    go_wp2_with (first | (go_at_call 124; refine (isName_any _ _ hm).mono ?_; rintro e w' ⟨rfl, rfl⟩) | (go_at_call 261; refine (variable_any s rb mb vs _ hm hn (hR.alloc _)).mono ?_; rintro e w1 ⟨rfl, hR1, hg1⟩; have hbx := box_grown hg1 (fun k e => by cases e; exact hR.lt); obtain ⟨hx1, hx2⟩ := box_cells hbx))
    refine bodyPost_ret (v := .tuple #[.agg #[.bool true, .int .i64 (vnum vs s.data.toList), .int .i64 0], .bool true]) (by simp [results, Tryz.results259, go_sem, hx1]) rfl ⟨by simp [opd, opdV, opdB, hnm], ?_, ?_⟩
    · rw [show opdA vs s = vadd vs s.data.toList by simp [opdA, hnm]]
      exact ((hR1.set (by simp; omega) (by simp; omega) _).set (by simp; omega) (by simp; omega) _).set (by simp; omega) (by simp; omega) _
    · exact grown_set (grown_set (grown_set (grown_of_alloc hg1) (Nat.le_refl _) _) (Nat.le_refl _) _) (Nat.le_refl _) _
  | false =>
    obtain ⟨te, pe, hc⟩ := hG.alloc (Obj.cells #[Value.bool false, Value.int IntKind.i64 0, Value.int IntKind.i64 0] 150)
    go_enter Tryz.func259, Tryz.ntmps259
    go_wp2_with (first | (go_at_call 124; refine (isName_any _ _ hm).mono ?_; rintro e w' ⟨rfl, rfl⟩) | (go_at_call 304; refine (parseConstant_any s (.iface te pe) _ hs hc ⟨te, pe, rfl⟩).mono ?_; rintro e w1 ⟨rfl, hb1⟩; have hbx := box_grown (grown_of_below hb1) (fun k e => by cases e); obtain ⟨hx1, hx2⟩ := box_cells hbx))
    have hg1 := grown_to (grown_of_below hb1) (some mb)
    have hR1 := (hR.alloc _).kept (grown_of_below hb1)
    refine bodyPost_ret (v := .tuple #[.agg #[.bool false, .int .i64 0, .int .i64 (cstV s.data.toList)], .bool (cstB s.data.toList)]) (by simp [results, Tryz.results259, go_sem, hx1]) rfl ⟨by simp [opd, opdV, opdB, hnm], ?_, ?_⟩
    · rw [show opdA vs s = vs by simp [opdA, hnm]]
      exact ((hR1.set (by simp; omega) (by simp; omega) _).set (by simp; omega) (by simp; omega) _).set (by simp; omega) (by simp; omega) _
    · exact grown_set (grown_set (grown_set (grown_of_alloc hg1) (Nat.le_refl _) _) (Nat.le_refl _) _) (Nat.le_refl _) _
theorem operand_D (s : ByteArray) (rb mb : Nat) (vs : List Nam) (w : World) (hs : s.size ≤ 3000) (hn : vs.length < maxLen) (hR : Rd w rb mb vs) (hG : Glob w) :
    Calls Tryz.prog 259 #[.pointer (some ⟨rb, 0, none⟩), .string s] w fun e w' => ∃ (iv : Bool) (va co : Int),
      e = .returned (.tuple #[.agg #[.bool iv, .int .i64 va, .int .i64 co], .bool (opdB s)]) ∧ Hid (opd vs s = ⟨iv, va, co⟩) ∧ Rd w' rb mb (opdA vs s) ∧ w.grownBy w' (some mb) :=
  (operand_any s rb mb vs w hs hn hR hG).mono fun _ _ h => ⟨_, _, _, h.1, rfl, h.2.1, h.2.2⟩
theorem Glob.grown {w w' : World} {rb mb : Nat} {vs : List Nam} (h : Glob w) (hR : Rd w rb mb vs) (hg : w.grownBy w' (some mb)) : Glob w' := h.kept hR.isMap hg (Or.inr rfl)
theorem Glob.set {w : World} (h : Glob w) {a : Addr} (ha : a.block ≠ 5) (v : Value) : Glob (w.setCell a v) := by
  obtain ⟨te, pe, hc⟩ := h
  refine ⟨te, pe, ?_⟩
  rw [World.cell?_of_block (w := w) (Below.heap_setCell _ _ _ _ (Ne.symm ha))]
  exact hc
theorem Glob.lt {w : World} (h : Glob w) : 5 < w.heap.size := by
  obtain ⟨te, pe, hc⟩ := h
  exact World.block_lt_of_cell? w _ hc
end Go.Proofs.YtmipbiligijcpaaGreatDoor
namespace Go.Proofs.YtmipbiligijcpaaGreatDoor
set_option linter.unusedVariables false
set_option linter.unusedSimpArgs false
open Go.RowKit Go.Proofs Go.Maps

/-- words ws lie in block g from cell off on -/
def Ws (w : World) (g off : Nat) (ws : List ByteArray) : Prop := ∃ cur, w.heap[g]? = some (.cells cur 9 (0, 0)) ∧ (cur.toList.drop off).take ws.length = ws.map Value.string
theorem Ws.cell {w : World} {g off : Nat} {ws : List ByteArray} (h : Ws w g off ws) (j : Nat) (x : ByteArray) (hj : ws[j]? = some x) : w.cell? ⟨g, off + j, none⟩ = some (.string x) := by
  obtain ⟨cur, hb, ht⟩ := h
  have hl : j < ws.length := (List.getElem?_eq_some_iff.1 hj).1
  have h1 : ((cur.toList.drop off).take ws.length)[j]? = some (.string x) := by rw [ht]; simp [hj]
  rw [List.getElem?_take, if_pos hl, List.getElem?_drop] at h1
  simp [World.cell?, hb]
  simpa using h1
theorem Ws.lt {w : World} {g off : Nat} {ws : List ByteArray} (h : Ws w g off ws) : g < w.heap.size := by
  obtain ⟨cur, hb, _⟩ := h; exact (Array.getElem?_eq_some_iff.1 hb).1
theorem Ws.of_block {w w' : World} {g off : Nat} {ws : List ByteArray} (h : Ws w g off ws) (hb : w'.heap[g]? = w.heap[g]?) : Ws w' g off ws := by
  obtain ⟨cur, h1, h2⟩ := h; exact ⟨cur, hb.trans h1, h2⟩
theorem Ws.ne_map {w : World} {g off mb : Nat} {ws : List ByteArray} (h : Ws w g off ws) (hm : ∃ es c, w.heap[mb]? = some (.map es c)) : g ≠ mb := by
  rintro rfl
  obtain ⟨cur, h1, _⟩ := h
  obtain ⟨es, c, h2⟩ := hm
  rw [h1] at h2; cases h2
theorem Ws.grown {w w' : World} {g off mb : Nat} {ws : List ByteArray} (h : Ws w g off ws) (hm : ∃ es c, w.heap[mb]? = some (.map es c)) (hg : w.grownBy w' (some mb)) : Ws w' g off ws :=
  h.of_block (hg.block g h.lt (by simp; exact h.ne_map hm))
theorem Ws.alloc {w : World} {g off : Nat} {ws : List ByteArray} (h : Ws w g off ws) (o : Obj) : Ws (w.alloc o) g off ws := h.of_block (Below.heap_alloc w o g h.lt)
theorem Ws.set {w : World} {g off : Nat} {ws : List ByteArray} (h : Ws w g off ws) {a : Addr} (ha : g ≠ a.block) (v : Value) : Ws (w.setCell a v) g off ws := h.of_block (Below.heap_setCell _ _ _ _ ha)
theorem Ws.tail {w : World} {g off : Nat} {x : ByteArray} {ws : List ByteArray} (h : Ws w g off (x :: ws)) : Ws w g (off + 1) ws := by
  obtain ⟨cur, h1, h2⟩ := h
  refine ⟨cur, h1, ?_⟩
  have := congrArg (List.drop 1) h2
  simpa [List.drop_take, List.drop_drop, Nat.add_comm] using this

/-- a node's cells -/
structure SN where
  kind : Int
  var : Int
  op : Int
  test : Int
  a : Opd
  b : Opd
  goal : ByteArray
def o0 : Opd := ⟨false, 0, 0⟩
def emp : ByteArray := ⟨#[]⟩
def snCells (lab : ByteArray) (wv : Value) (n : SN) (ev : Value) : Array Value :=
  #[.string lab, wv, .int .i64 n.kind, .int .i64 n.var, .int .i64 n.op, .int .i64 n.test, .bool n.a.isVar, .int .i64 n.a.var, .int .i64 n.a.const, .bool n.b.isVar, .int .i64 n.b.var, .int .i64 n.b.const, ev, .string n.goal]
def nilS : Value := .slice none 0 0
def snV (n : SN) : Value := .agg (snCells emp nilS n nilS)
def sn0 : SN := ⟨0, 0, 0, 0, o0, o0, emp⟩

set_option maxHeartbeats 400000 in
theorem readOutput_no (rb : Nat) (a : Option Addr) (len cap : Nat) (w : World) (h : ((len : Int) != 2) = true) (hl : len ≤ 3001) :
    Calls Tryz.prog 194 #[.pointer (some ⟨rb, 0, none⟩), .slice a len cap] w fun e w' =>
      e = .returned (.tuple #[snV sn0, .bool false]) ∧ Below w.heap.size w w' := by
  go_enter Tryz.func194, Tryz.ntmps194
  go_wp2
  exact bodyPost_ret (v := .tuple #[snV sn0, .bool false]) (by simp [results, Tryz.results194, go_sem, snV, snCells, sn0, o0, emp, nilS]) rfl ⟨rfl, (Below.refl _ _).alloc (Nat.le_refl _) _⟩
set_option maxHeartbeats 400000 in
theorem readOutput_yes (rb mb g off cap : Nat) (w0 w1 : ByteArray) (vs : List Nam) (w : World) (hs : w1.size ≤ 3000) (hn : vs.length < maxLen) (hR : Rd w rb mb vs) (hG : Glob w) (hW : Ws w g off [w0, w1]) :
    Calls Tryz.prog 194 #[.pointer (some ⟨rb, 0, none⟩), .slice (some ⟨g, off, none⟩) 2 cap] w fun e w' =>
      e = .returned (.tuple #[snV ⟨3, 0, 0, 0, opd vs w1, o0, emp⟩, .bool (opdB w1)]) ∧ Rd w' rb mb (opdA vs w1) ∧ w.grownBy w' (some mb) := by
  have hc := hW.cell 1 w1 rfl
  have hg := hW.lt
  have hm := hR.lt
  have hr := hR.ltr
  go_enter Tryz.func194, Tryz.ntmps194
  go_wp2_with (first | (go_at_call 259; refine (operand_D w1 rb mb vs _ hs hn (hR.alloc _) (hG.alloc _)).mono ?_; rintro e w2 ⟨iv, va, co, rfl, HO, hR1, hg1⟩; have hbx := box_grown hg1 (fun k e => by cases e; exact hR.lt); obtain ⟨hx1, hx2⟩ := box_cells hbx; have hz : w.heap.size < w2.heap.size := (Array.getElem?_eq_some_iff.1 hbx).1))
  refine bodyPost_ret (v := .tuple #[snV ⟨3, 0, 0, 0, ⟨iv, va, co⟩, o0, emp⟩, .bool (opdB w1)]) (by simp [results, Tryz.results194, go_sem, snV, snCells, o0, emp, nilS, hx1, hz]) rfl ⟨by rw [HO.out], ?_, ?_⟩
  · refine Rd.alloc ?_ _
    repeat (refine Rd.set ?_ (by simp; omega) (by simp; omega) _)
    exact hR1
  · refine World.grownBy.trans ?_ (World.grownBy_alloc _ _ _)
    repeat (refine grown_set ?_ (Nat.le_refl _) _)
    exact grown_of_alloc hg1
end Go.Proofs.YtmipbiligijcpaaGreatDoor
