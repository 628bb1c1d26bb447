/- Links: edges laid, or none. -/
import Derived.Test.YtmipbiligijcpaaDoorW13
namespace Go.Proofs.YtmipbiligijcpaaDoor
set_option linter.unusedVariables false
set_option linter.unusedSimpArgs false
open Go.RowKit Go.Proofs Go.Maps Go.WideMaps

def jumps (k : Int) : Bool := k == 4 || k == 5
set_option maxHeartbeats 1000000 in
set_option maxRecDepth 100000 in
theorem namesLabel_any (c : NC) (w : World) :
    Calls Tryd.prog 30 #[.agg #[.string c.lab, .slice c.wa c.wl c.wc, .int .i64 c.n.kind, .int .i64 c.n.var, .int .i64 c.n.op, .int .i64 c.n.test, .bool c.n.a.isVar, .int .i64 c.n.a.var, .int .i64 c.n.a.const, .bool c.n.b.isVar, .int .i64 c.n.b.var, .int .i64 c.n.b.const, .slice c.ea c.el c.ec, .string c.n.goal]] w fun e w' =>
      e = .returned (.bool (jumps c.n.kind)) ∧ Below w.heap.size w w' := by
  go_enter Tryd.func30, Tryd.ntmps30
  go_wp2
  all_goals
    go_ret
    refine ⟨ret_bool ?_, (Below.refl _ _).alloc (Nat.le_refl _) _⟩
    simp_all [jumps]

def goalsOk (ps : List (Nam × Nat)) (nl : List NC) : Bool := nl.all (fun c => !jumps c.n.kind || decide (c.n.goal.data.toList ∈ keysA ps))
def edgK (ps : List (Nam × Nat)) (c : NC) (j : Nat) : List Int := edg c.n.kind (valA ps c.n.goal.data.toList) ((j : Int) + 1)
def lastOk (ps : List (Nam × Nat)) (nl : List NC) : Bool := match nl.getLast? with | some c => !(edgK ps c (nl.length - 1)).contains (nl.length : Int) | none => false
def linkOk (nl : List NC) : Bool := match plc 0 [] (nl.map NC.lab) with | some ps => goalsOk ps nl && lastOk ps nl | none => false
/-- the same node but for its edges -/
structure Like (c c' : NC) : Prop where
  lab : c'.lab = c.lab
  wa : c'.wa = c.wa
  wl : c'.wl = c.wl
  wc : c'.wc = c.wc
  n : c'.n = c.n
theorem Like.refl (c : NC) : Like c c := ⟨rfl, rfl, rfl, rfl, rfl⟩
theorem Like.on (c : NC) (a : Option Addr) (l k : Nat) : Like c (c.on a l k) := ⟨rfl, rfl, rfl, rfl, rfl⟩
/-- nl' is nl, with edges at the first k -/
structure Lk (w : World) (ps : List (Nam × Nat)) (nl nl' : List NC) (k : Nat) : Prop where
  len : nl'.length = nl.length
  done : ∀ j c, j < k → nl[j]? = some c → ∃ c', nl'[j]? = some c' ∧ Like c c' ∧ Er w c'.ev (edgK ps c j) ∧ (!jumps c.n.kind || decide (c.n.goal.data.toList ∈ keysA ps)) = true
  rest : ∀ j, k ≤ j → nl'[j]? = nl[j]?
theorem Er.of_below {w w' : World} {ev : Value} {es : List Int} (h : Er w ev es) (hb : Below w.heap.size w w') : Er w' ev es := by
  rcases h with h | ⟨b, h1, h2⟩
  · exact Or.inl h
  · exact Or.inr ⟨b, h1, (hb.block b (Array.getElem?_eq_some_iff.1 h2).1).trans h2⟩
theorem Er.of_set {w : World} {ev : Value} {es : List Int} {g cap : Nat} {nl : List NC} (h : Er w ev es) (hN : Nrow w g cap nl) (o : Nat) (v : Value) : Er (w.setCell ⟨g, o, none⟩ v) ev es := by
  rcases h with h | ⟨b, h1, h2⟩
  · exact Or.inl h
  · refine Or.inr ⟨b, h1, (Below.heap_setCell _ _ _ _ ?_).trans h2⟩
    rintro rfl
    obtain ⟨cur, hc, _⟩ := hN
    rw [hc] at h2
    simp at h2
theorem Lk.of_below {w w' : World} {ps : List (Nam × Nat)} {nl nl' : List NC} {k : Nat} (h : Lk w ps nl nl' k) (hb : Below w.heap.size w w') : Lk w' ps nl nl' k :=
  ⟨h.len, fun j c hj hc => let ⟨c', a, b, d, e⟩ := h.done j c hj hc; ⟨c', a, b, d.of_below hb, e⟩, h.rest⟩
theorem Lk.step {w : World} {ps : List (Nam × Nat)} {nl nl' : List NC} {k g cap : Nat} {c : NC} (h : Lk w ps nl nl' k) (hN : Nrow w g cap nl') (hc : nl[k]? = some c) (hc' : nl'[k]? = some c) (a : Option Addr) (el ec : Nat) (hE : Er w (.slice a el ec) (edgK ps c k)) (hg : (!jumps c.n.kind || decide (c.n.goal.data.toList ∈ keysA ps)) = true) :
    Lk (w.setCell ⟨g, k * 14 + 12, none⟩ (.slice a el ec)) ps nl (nl'.set k (c.on a el ec)) (k + 1) := by
  have hl : k < nl'.length := (List.getElem?_eq_some_iff.1 hc').1
  refine ⟨by simpa using h.len, fun j d hj hd => ?_, fun j hj => ?_⟩
  · by_cases e : j = k
    · subst e
      rw [hc] at hd; cases hd
      exact ⟨c.on a el ec, by simp [hl], Like.on c a el ec, hE.of_set hN _ _, hg⟩
    · obtain ⟨c', x, y, z, u⟩ := h.done j d (by omega) hd
      exact ⟨c', by rw [List.getElem?_set_ne (by omega)]; exact x, y, z.of_set hN _ _, u⟩
  · rw [List.getElem?_set_ne (by omega)]; exact h.rest j (by omega)
theorem link_none (a : Option Addr) (cap : Nat) (w : World) :
    Calls Tryd.prog 16 #[.slice a 0 cap] w fun e w' => e = .returned (.bool false) ∧ w' = w := by
  go_enter Tryd.func16, Tryd.ntmps16
  go_wp2
  go_ret
  exact ⟨rfl, rfl⟩
theorem link_many (a : Option Addr) (len cap : Nat) (w : World) (h0 : ((len : Int) == 0) = false) (h : decide (60 < (len : Int)) = true) :
    Calls Tryd.prog 16 #[.slice a len cap] w fun e w' => e = .returned (.bool false) ∧ w' = w := by
  go_enter Tryd.func16, Tryd.ntmps16
  go_wp2
  go_ret
  exact ⟨rfl, rfl⟩
end Go.Proofs.YtmipbiligijcpaaDoor
