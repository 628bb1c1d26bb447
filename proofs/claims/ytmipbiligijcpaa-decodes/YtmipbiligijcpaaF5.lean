/- The document's reader: nodes, the boxes. -/
import Derived.Test.YtmipbiligijcpaaF3
import Derived.Test.YtmipbiligijcpaaO1
import Derived.OwnWalk
import Derived.Test.YtmipbiligijcpaaN9
import Derived.Test.YtmipbiligijcpaaN13
namespace Go.Proofs.Ytmipbiligijcpaa
set_option linter.unusedVariables false
set_option linter.unusedSimpArgs false
open Go.RowKit Go.Proofs Go.Maps

def stepD (last : Int) (l : List UInt8) : Option ((Int × Int) × List UInt8) := match rsm ((100000 : Nat) : Int) l with
  | some (d, r) => some ((last + 1 + (d : Int), last + 1 + (d : Int)), r)
  | none => none
def stepX (_ : Unit) (l : List UInt8) : Option ((Int × Unit) × List UInt8) := match rsm ((100000 : Nat) : Int) l with
  | some (d, r) => some (((d : Int), ()), r)
  | none => none
def stepW (p g : Int) (_ : Unit) (l : List UInt8) : Option ((Vl × Unit) × List UInt8) := match dval p g l with
  | some (v, r) => some ((v, ()), r)
  | none => none
def dset (g : Int) : List UInt8 → Option (Nd × List UInt8) := rbind (rsm ((60000 : Nat) : Int)) (fun k => rbind (rlist stepD k (-1)) (fun fs => if g = 1 then rbind (rlist stepX k ()) (fun rs => rret ⟨fs.1, rs.1, false, 0, []⟩) else rret ⟨fs.1, [], false, 0, []⟩))
def drank (g : Int) : List UInt8 → Option (Nat × List UInt8) := if g = 1 then rsm ((100000 : Nat) : Int) else rret 0
def denv (p g : Int) : List UInt8 → Option (Nd × List UInt8) := rbind (rsm ((1 : Nat) : Int)) (fun y => if y = 0 then rret nd0b else rbind (drank g) (fun rk => rbind (rsm ((8 : Nat) : Int)) (fun k => rbind (rlist (stepW p g) k ()) (fun vs => rret ⟨[], [], true, (rk : Int), vs.1⟩))))
def dnode (p g : Int) : List UInt8 → Option (Nd × List UInt8) := if p ≤ 4 then dset g else denv p g
theorem DrK.snoc {σ α : Type} {s : ByteArray} {a a1 a2 i : Nat} {b b1 b2 : Bool} {step : σ → List UInt8 → Option ((α × σ) × List UInt8)} {st st1 st2 : σ} {xs : List α} {x : α} (h1 : DrK s a b (rlist step i st) (xs, st1) a1 b1) (h2 : DrK s a1 b1 (step st1) (x, st2) a2 b2) : DrK s a b (rlist step (i + 1) st) (xs ++ [x], st2) a2 b2 := by
  refine ⟨Nat.le_trans h1.le h2.le, h2.sz, ?_⟩
  rw [rlist_snoc]
  rcases h2.how with ⟨e1, e2, e3⟩ | ⟨e1, e2⟩
  · rcases h1.how with ⟨_, f2, f3⟩ | ⟨f1, _⟩
    · exact Or.inl ⟨e1, f2, by rw [f3]; simp only; rw [e3]⟩
    · rw [e2] at f1; cases f1
  · refine Or.inr ⟨e1, ?_⟩
    rcases h1.how with ⟨f1, f2, f3⟩ | ⟨f1, f2⟩
    · rcases e2 with e2 | e2
      · rw [f1] at e2; cases e2
      · right; rw [f3]; simp only; rw [e2]
    · rcases f2 with f2 | f2
      · exact Or.inl f2
      · right; rw [f2]
theorem DrK.cut {σ α : Type} {s : ByteArray} {a a1 i k : Nat} {b : Bool} {step : σ → List UInt8 → Option ((α × σ) × List UInt8)} {st : σ} {v : List α × σ} (h1 : DrK s a b (rlist step i st) v a1 true) (hik : i ≤ k) (v' : List α × σ) : DrK s a b (rlist step k st) v' a1 true := by
  refine ⟨h1.le, h1.sz, Or.inr ⟨rfl, ?_⟩⟩
  rcases h1.how with ⟨f1, _⟩ | ⟨_, f2⟩
  · cases f1
  · rcases f2 with f2 | f2
    · exact Or.inl f2
    · exact Or.inr (rlist_none step f2 hik)
theorem DrK.start {σ α : Type} {s : ByteArray} {a : Nat} (b : Bool) (step : σ → List UInt8 → Option ((α × σ) × List UInt8)) (st : σ) (h : a ≤ s.size) : DrK s a b (rlist step 0 st) ([], st) a b := by
  refine ⟨Nat.le_refl _, h, ?_⟩
  cases b with
  | false => exact Or.inl ⟨rfl, rfl, rfl⟩
  | true => exact Or.inr ⟨rfl, Or.inl rfl⟩
theorem DrK.stepD {s : ByteArray} {a a' d : Nat} {b b' : Bool} (last : Int) (h : DrK s a b (rsm ((100000 : Nat) : Int)) d a' b') : DrK s a b (Go.Proofs.Ytmipbiligijcpaa.stepD last) (last + 1 + (d : Int), last + 1 + (d : Int)) a' b' := by
  refine ⟨h.le, h.sz, ?_⟩
  unfold Go.Proofs.Ytmipbiligijcpaa.stepD
  rcases h.how with ⟨e1, e2, e3⟩ | ⟨e1, e2⟩
  · exact Or.inl ⟨e1, e2, by rw [e3]⟩
  · refine Or.inr ⟨e1, ?_⟩
    rcases e2 with e2 | e2
    · exact Or.inl e2
    · right; rw [e2]
theorem DrK.stepX {s : ByteArray} {a a' d : Nat} {b b' : Bool} (h : DrK s a b (rsm ((100000 : Nat) : Int)) d a' b') : DrK s a b (Go.Proofs.Ytmipbiligijcpaa.stepX ()) ((d : Int), ()) a' b' := by
  refine ⟨h.le, h.sz, ?_⟩
  unfold Go.Proofs.Ytmipbiligijcpaa.stepX
  rcases h.how with ⟨e1, e2, e3⟩ | ⟨e1, e2⟩
  · exact Or.inl ⟨e1, e2, by rw [e3]⟩
  · refine Or.inr ⟨e1, ?_⟩
    rcases e2 with e2 | e2
    · exact Or.inl e2
    · right; rw [e2]
theorem DrK.stepW {s : ByteArray} {a a' : Nat} {b b' : Bool} {p g : Int} {v : Vl} (h : DrK s a b (dval p g) v a' b') : DrK s a b (Go.Proofs.Ytmipbiligijcpaa.stepW p g ()) (v, ()) a' b' := by
  refine ⟨h.le, h.sz, ?_⟩
  unfold Go.Proofs.Ytmipbiligijcpaa.stepW
  rcases h.how with ⟨e1, e2, e3⟩ | ⟨e1, e2⟩
  · exact Or.inl ⟨e1, e2, by rw [e3]⟩
  · refine Or.inr ⟨e1, ?_⟩
    rcases e2 with e2 | e2
    · exact Or.inl e2
    · right; rw [e2]
end Go.Proofs.Ytmipbiligijcpaa
namespace Go.Proofs.Ytmipbiligijcpaa
set_option linter.unusedVariables false
set_option linter.unusedSimpArgs false
open Go.RowKit Go.Proofs Go.Maps

/-- the boxes while a node is read -/
def NBx (W w : World) (p g : Int) (na : Option Addr) (nl nc : Nat) (x : N5) : Prop := W.heap[w.heap.size]? = some (.cells #[.int .i64 p, .int .i64 g, .slice na nl nc] 24 (0, 0)) ∧ W.heap[w.heap.size + 1]? = some (.cells #[.slice none 0 0, .slice none 0 0, .bool false, .int .i64 0, .slice none 0 0] 50 (0, 0)) ∧ W.heap[w.heap.size + 2]? = some (.cells #[.slice x.fa x.n.facts.length x.fc, .slice x.ra x.n.ranks.length x.rc, .bool x.n.reached, .int .i64 x.n.rank, .slice x.va x.n.vals.length x.vc] 50 (0, 0))
/-- all that is known while a node is read -/
structure NSt (W w : World) (p g : Int) (na : Option Addr) (nl nc rb : Nat) (s : ByteArray) (x : N5) (a : Nat) (b : Bool) : Prop where
  bx : NBx W w p g na nl nc x
  rd : DRd W rb s a b
  gr : w.grownBy W (some rb)
  ok : NvOk W (w.heap.size + 3) x
theorem NSt.lt {W w : World} {p g : Int} {na : Option Addr} {nl nc rb : Nat} {s : ByteArray} {x : N5} {a : Nat} {b : Bool} (h : NSt W w p g na nl nc rb s x a b) : w.heap.size + 3 ≤ W.heap.size := (Array.getElem?_eq_some_iff.1 h.bx.2.2).1
theorem NvOk.kept {W W' : World} {B q : Nat} {x : N5} (h : NvOk W B x) (hg : W.grownBy W' (some q)) (hq : q < B) : NvOk W' B x :=
  ⟨h.f.kept hg (own_lt_ne h.f hq), h.r.kept hg (own_lt_ne h.r hq), h.v.kept hg (own_lt_ne h.v hq), h.ap⟩
theorem NSt.call {W W' w : World} {p g : Int} {na : Option Addr} {nl nc rb : Nat} {s : ByteArray} {x : N5} {a a' : Nat} {b b' : Bool} (h : NSt W w p g na nl nc rb s x a b) (hr : rb < w.heap.size) (hd : DRd W' rb s a' b') (hg : W.grownBy W' (some rb)) : NSt W' w p g na nl nc rb s x a' b' :=
  ⟨⟨box_kept h.bx.1 hg (by omega), box_kept h.bx.2.1 hg (by omega), box_kept h.bx.2.2 hg (by omega)⟩, hd, h.gr.trans hg, h.ok.kept hg (by omega)⟩
theorem NSt.set {W w : World} {p g : Int} {na : Option Addr} {nl nc rb : Nat} {s : ByteArray} {x x' : N5} {a : Nat} {b : Bool} (h : NSt W w p g na nl nc rb s x a b) (hr : rb < w.heap.size) (o : Nat) (u : Value) (he : #[Value.slice x.fa x.n.facts.length x.fc, .slice x.ra x.n.ranks.length x.rc, .bool x.n.reached, .int .i64 x.n.rank, .slice x.va x.n.vals.length x.vc].setIfInBounds o u = #[.slice x'.fa x'.n.facts.length x'.fc, .slice x'.ra x'.n.ranks.length x'.rc, .bool x'.n.reached, .int .i64 x'.n.rank, .slice x'.va x'.n.vals.length x'.vc]) (hok : NvOk W (w.heap.size + 3) x') : NSt (W.setCell ⟨w.heap.size + 2, o, none⟩ u) w p g na nl nc rb s x' a b := by
  have hg := grown_self W (w.heap.size + 2) o u
  refine ⟨⟨(Below.heap_setCell _ _ _ _ (by show w.heap.size ≠ w.heap.size + 2; omega)).trans h.bx.1, (Below.heap_setCell _ _ _ _ (by show w.heap.size + 1 ≠ w.heap.size + 2; omega)).trans h.bx.2.1, ?_⟩, h.rd.far (by omega) u, grown_far h.gr (by omega) u, hok.kept hg (by omega)⟩
  rw [drd_set h.bx.2.2, he]
/-- the world behind an append to a row of the node's: the boxes stand -/
theorem NSt.grew {W W' w : World} {p g : Int} {na : Option Addr} {nl nc rb : Nat} {s : ByteArray} {x : N5} {a : Nat} {b : Bool} {o : Obj} {row : Option Nat} (h : NSt W w p g na nl nc rb s x a b) (hr : rb < w.heap.size) (hg : (W.alloc o).grownBy W' row) (hrow : ∀ k, row = some k → w.heap.size + 3 ≤ k) : NBx W' w p g na nl nc x ∧ DRd W' rb s a b ∧ w.grownBy W' (some rb) := by
  have hz := h.lt
  have key : ∀ k, k < w.heap.size + 3 → W'.heap[k]? = W.heap[k]? := by
    intro k hk
    refine (hg.block k (by simp; omega) ?_).trans (Below.heap_alloc _ _ _ (by omega))
    intro e
    have := hrow k e.symm
    omega
  refine ⟨⟨(key _ (by omega)).trans h.bx.1, (key _ (by omega)).trans h.bx.2.1, (key _ (by omega)).trans h.bx.2.2⟩, (key _ (by omega)).trans h.rd, ?_⟩
  have h1 := hg.size
  have h2 := h.gr
  refine ⟨hg.os.trans h2.os, hg.tape.trans h2.tape, hg.output.trans h2.output, by simp at h1; omega, fun k hk hne => ?_⟩
  exact (key k (by omega)).trans (h2.block k hk hne)
theorem slice_own {fa : Option Addr} {n c : Nat} {w : World} {B e size m : Nat} {xs : List Value} (h : w.ownsRow B e size (.slice fa n c) m xs) : n = m := by
  rcases h.2 with ⟨h1, h2⟩ | ⟨g, cap, cur, h1, _⟩
  · cases h1; omega
  · cases h1; rfl
theorem own_row_ge {w : World} {B e size n : Nat} {v : Value} {xs : List Value} (h : w.ownsRow B e size v n xs) : ∀ k, v.ownBlock = some k → B ≤ k := fun k hk => (h.lt k hk).1
theorem apart_sym {a b : Option Nat} (h : a = none ∨ a ≠ b) : b = none ∨ b ≠ a := by
  cases b with
  | none => exact Or.inl rfl
  | some j =>
    right
    intro e
    rcases h with h | h
    · rw [h] at e; cases e
    · exact h e.symm
/-- a number behind the facts -/
theorem NSt.app_f {W W' w : World} {p g : Int} {na : Option Addr} {nl nc rb fc' : Nat} {s : ByteArray} {x : N5} {a : Nat} {b : Bool} {y : Int} {fa' : Option Addr} (h : NSt W w p g na nl nc rb s x a b) (hr : rb < w.heap.size)
    (ho : W'.ownsRow (w.heap.size + 3) 3 1 (.slice fa' (x.n.facts.length + 1) fc') (x.n.facts.length + 1) (x.n.facts.map (Value.int .i64) ++ [.int .i64 y])) (hg : (W.alloc (.cells #[.int .i64 y] 3)).grownBy W' x.fv.ownBlock) (hw : (Value.slice fa' (x.n.facts.length + 1) fc').ownBlock = x.fv.ownBlock ∨ (Value.slice fa' (x.n.facts.length + 1) fc').ownBlock = some (W.alloc (.cells #[.int .i64 y] 3)).heap.size) :
    NSt (W'.setCell ⟨w.heap.size + 2, 0, none⟩ (.slice fa' (x.n.facts.length + 1) fc')) w p g na nl nc rb s ⟨fa', fc', x.ra, x.rc, x.va, x.vc, ⟨x.n.facts ++ [y], x.n.ranks, x.n.reached, x.n.rank, x.n.vals⟩⟩ a b := by
  obtain ⟨g1, g2, g3⟩ := h.grew hr hg (own_row_ge h.ok.f)
  have hr1 := h.ok.r.alloc (.cells #[.int .i64 y] 3)
  have hv1 := h.ok.v.alloc (.cells #[.int .i64 y] 3)
  have hf1 := h.ok.f.alloc (.cells #[.int .i64 y] 3)
  have hok : NvOk W' (w.heap.size + 3) ⟨fa', fc', x.ra, x.rc, x.va, x.vc, ⟨x.n.facts ++ [y], x.n.ranks, x.n.reached, x.n.rank, x.n.vals⟩⟩ := by
    refine ⟨by simpa [N5.fv] using ho, hr1.kept hg (apart_sym h.ok.ap), hv1.kept hg (own_ne_ty hv1 hf1 (by decide)), ?_⟩
    show (Value.slice fa' (x.n.facts ++ [y]).length fc').ownBlock = none ∨ (Value.slice fa' (x.n.facts ++ [y]).length fc').ownBlock ≠ x.rv.ownBlock
    rw [show (x.n.facts ++ [y]).length = x.n.facts.length + 1 by simp]
    rcases hw with e | e
    · rw [e]; exact h.ok.ap
    · right
      rw [e]
      intro e2
      have := (h.ok.r.lt _ e2.symm).2
      simp at this
      omega
  have hb : NSt W' w p g na nl nc rb s x a b ∨ True := Or.inr trivial
  have hg2 := grown_self W' (w.heap.size + 2) 0 (.slice fa' (x.n.facts.length + 1) fc')
  refine ⟨⟨(Below.heap_setCell _ _ _ _ (by show w.heap.size ≠ w.heap.size + 2; omega)).trans g1.1, (Below.heap_setCell _ _ _ _ (by show w.heap.size + 1 ≠ w.heap.size + 2; omega)).trans g1.2.1, ?_⟩, g2.far (by omega) _, grown_far g3 (by omega) _, hok.kept hg2 (by omega)⟩
  rw [drd_set g1.2.2]
  simp
/-- a number behind the ranks -/
theorem NSt.app_r {W W' w : World} {p g : Int} {na : Option Addr} {nl nc rb fc' : Nat} {s : ByteArray} {x : N5} {a : Nat} {b : Bool} {y : Int} {fa' : Option Addr} (h : NSt W w p g na nl nc rb s x a b) (hr : rb < w.heap.size)
    (ho : W'.ownsRow (w.heap.size + 3) 3 1 (.slice fa' (x.n.ranks.length + 1) fc') (x.n.ranks.length + 1) (x.n.ranks.map (Value.int .i64) ++ [.int .i64 y])) (hg : (W.alloc (.cells #[.int .i64 y] 3)).grownBy W' x.rv.ownBlock) (hw : (Value.slice fa' (x.n.ranks.length + 1) fc').ownBlock = x.rv.ownBlock ∨ (Value.slice fa' (x.n.ranks.length + 1) fc').ownBlock = some (W.alloc (.cells #[.int .i64 y] 3)).heap.size) :
    NSt (W'.setCell ⟨w.heap.size + 2, 1, none⟩ (.slice fa' (x.n.ranks.length + 1) fc')) w p g na nl nc rb s ⟨x.fa, x.fc, fa', fc', x.va, x.vc, ⟨x.n.facts, x.n.ranks ++ [y], x.n.reached, x.n.rank, x.n.vals⟩⟩ a b := by
  obtain ⟨g1, g2, g3⟩ := h.grew hr hg (own_row_ge h.ok.r)
  have hr1 := h.ok.r.alloc (.cells #[.int .i64 y] 3)
  have hv1 := h.ok.v.alloc (.cells #[.int .i64 y] 3)
  have hf1 := h.ok.f.alloc (.cells #[.int .i64 y] 3)
  have hok : NvOk W' (w.heap.size + 3) ⟨x.fa, x.fc, fa', fc', x.va, x.vc, ⟨x.n.facts, x.n.ranks ++ [y], x.n.reached, x.n.rank, x.n.vals⟩⟩ := by
    refine ⟨hf1.kept hg h.ok.ap, by simpa [N5.rv] using ho, hv1.kept hg (own_ne_ty hv1 hr1 (by decide)), ?_⟩
    show x.fv.ownBlock = none ∨ x.fv.ownBlock ≠ (Value.slice fa' (x.n.ranks ++ [y]).length fc').ownBlock
    rw [show (x.n.ranks ++ [y]).length = x.n.ranks.length + 1 by simp]
    rcases hw with e | e
    · rw [e]; exact h.ok.ap
    · right
      rw [e]
      intro e2
      have := (h.ok.f.lt _ e2).2
      simp at this
      omega
  have hg2 := grown_self W' (w.heap.size + 2) 1 (.slice fa' (x.n.ranks.length + 1) fc')
  refine ⟨⟨(Below.heap_setCell _ _ _ _ (by show w.heap.size ≠ w.heap.size + 2; omega)).trans g1.1, (Below.heap_setCell _ _ _ _ (by show w.heap.size + 1 ≠ w.heap.size + 2; omega)).trans g1.2.1, ?_⟩, g2.far (by omega) _, grown_far g3 (by omega) _, hok.kept hg2 (by omega)⟩
  rw [drd_set g1.2.2]
  simp
/-- a value behind the values -/
theorem NSt.app_v {W W' w : World} {p g : Int} {na : Option Addr} {nl nc rb fc' : Nat} {s : ByteArray} {x : N5} {a : Nat} {b : Bool} {y : Vl} {fa' : Option Addr} {o : Obj} (h : NSt W w p g na nl nc rb s x a b) (hr : rb < w.heap.size)
    (ho : W'.ownsRow (w.heap.size + 3) 62 6 (.slice fa' (x.n.vals.length + 1) fc') (x.n.vals.length + 1) (vRow x.n.vals ++ vCells y)) (hg : (W.alloc o).grownBy W' x.vv.ownBlock) :
    NSt (W'.setCell ⟨w.heap.size + 2, 4, none⟩ (.slice fa' (x.n.vals.length + 1) fc')) w p g na nl nc rb s ⟨x.fa, x.fc, x.ra, x.rc, fa', fc', ⟨x.n.facts, x.n.ranks, x.n.reached, x.n.rank, x.n.vals ++ [y]⟩⟩ a b := by
  obtain ⟨g1, g2, g3⟩ := h.grew hr hg (own_row_ge h.ok.v)
  have hr1 := h.ok.r.alloc o
  have hv1 := h.ok.v.alloc o
  have hf1 := h.ok.f.alloc o
  have hok : NvOk W' (w.heap.size + 3) ⟨x.fa, x.fc, x.ra, x.rc, fa', fc', ⟨x.n.facts, x.n.ranks, x.n.reached, x.n.rank, x.n.vals ++ [y]⟩⟩ := by
    refine ⟨hf1.kept hg (own_ne_ty hf1 hv1 (by decide)), hr1.kept hg (own_ne_ty hr1 hv1 (by decide)), by simpa [N5.vv, vRow] using ho, h.ok.ap⟩
  have hg2 := grown_self W' (w.heap.size + 2) 4 (.slice fa' (x.n.vals.length + 1) fc')
  refine ⟨⟨(Below.heap_setCell _ _ _ _ (by show w.heap.size ≠ w.heap.size + 2; omega)).trans g1.1, (Below.heap_setCell _ _ _ _ (by show w.heap.size + 1 ≠ w.heap.size + 2; omega)).trans g1.2.1, ?_⟩, g2.far (by omega) _, grown_far g3 (by omega) _, hok.kept hg2 (by omega)⟩
  rw [drd_set g1.2.2]
  simp
end Go.Proofs.Ytmipbiligijcpaa
