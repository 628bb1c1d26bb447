/- A certificate that came in: opened. -/
import Derived.Test.YtmipbiligijcpaaProg
import Derived.Test.YtmipbiligijcpaaY4
import Derived.Test.YtmipbiligijcpaaRows
import Derived.ProofKit
import Derived.OpenShut
import Derived.ShutString
import Derived.ChangeOld
import Derived.Below
import Derived.Lay
import Derived.HandedShaped
import Derived.SizedLaws
import Derived.Deep.Slices
import Derived.Deep.Strs
namespace Go.Proofs.Ytmipbiligijcpaa
set_option linter.unusedVariables false
set_option linter.unusedSimpArgs false
open Go.ChangeShapes Go.WideShapes Go.ChangeAt Go.RowKit Go.Deep

theorem cellsInts : Try.prog.cellsOf 47 = 1 := by kernel_rfl
theorem cellsVals : Try.prog.cellsOf 48 = 1 := by kernel_rfl
theorem cellsNodes : Try.prog.cellsOf 22 = 1 := by kernel_rfl
theorem cellsInt : Try.prog.cellsOf 3 = 1 := by kernel_rfl
theorem cells64 : Try.prog.cellsOf 2 = 1 := by kernel_rfl
theorem cellsBool : Try.prog.cellsOf 4 = 1 := by kernel_rfl
theorem cellsVal : Try.prog.cellsOf 62 = 6 := by kernel_rfl
theorem cellsNode : Try.prog.cellsOf 50 = 5 := by kernel_rfl
theorem cellsCert : Try.prog.cellsOf 24 = 3 := by kernel_rfl
theorem bytesInt : Try.prog.bytesOf 3 = 8 := by kernel_rfl
theorem bytesVal : Try.prog.bytesOf 62 = 48 := by kernel_rfl
theorem bytesNode : Try.prog.bytesOf 50 = 88 := by kernel_rfl
section
variable {H : Type} {enc : TypeId × Value → H} {W : World} {sp : Nat → Bool} {held : Bool}
theorem wf_i64 {x : Int} (h : (Lit.int .i64 x).wf = true) : I64 x := by
  simp [Lit.wf] at h
  exact ⟨by simpa [IntKind.min, IntKind.bits, IntKind.signed] using h.1, by simpa [IntKind.max, IntKind.bits, IntKind.signed] using h.2⟩
/-- nothing in it is too great -/
def Fit (t : TypeId) (d : DataW H) : Prop := ∀ x ∈ d.weights Try.prog t, x ≤ reachBytes
theorem all_fit (t : TypeId) : ∀ (ds : List (DataW H)) (d : DataW H), d ∈ ds → ∀ x ∈ d.weights Try.prog t, x ∈ DataW.weightsAll Try.prog t ds
  | [], d, hd, x, hx => by cases hd
  | a :: r, d, hd, x, hx => by
    rw [DataW.weightsAll]
    rcases List.mem_cons.1 hd with rfl | h
    · exact List.mem_append_left _ hx
    · exact List.mem_append_right _ (all_fit t r d h x hx)
theorem fit_slice {t e : TypeId} {elems spare : List (DataW H)} (hu : Try.prog.underlying t = some (.slice e)) (h : Fit t (.slice elems spare)) : (elems.length + spare.length) * Try.prog.bytesOf e ≤ reachBytes ∧ ∀ d ∈ elems, Fit e d := by
  unfold Fit at h
  rw [DataW.weights, hu] at h
  exact ⟨h _ (by simp), fun d hd x hx => h x (by simp only [List.mem_cons, List.mem_append]; exact Or.inr (Or.inl (all_fit e elems d hd x hx)))⟩
theorem ints_of {fuel : Nat} {c : Value} {y : DataW H × List MemPlace} (h : DataW.trod enc Try.prog W 0 (fun _ => true) held fuel 47 [c] = some y) (hf : Fit 47 y.1) :
    ∃ fa fc, ∃ xs : List Int, c = .slice fa xs.length fc ∧ IntsAt W fa xs ∧ (∀ x ∈ xs, I64 x) ∧ (fa = none → fc = 0) ∧ xs.length * 8 ≤ 140737488355328 := by
  rcases open_ints Try.underlying47 Try.underlying3 cellsInt h with ⟨hcs, _⟩ | ⟨a, len, cap, zs, hcs, _, hl, hm, hz, hx, hcell, hwf⟩
  · simp at hcs
    exact ⟨none, 0, [], by rw [hcs]; rfl, (fun j x hj => by simp at hj), (fun x hx => by cases hx), fun _ => rfl, by simp⟩
  · simp at hcs
    have hz2 : zs.length = cap := by simpa using hz
    have hlen : (zs.take len).length = len := by simp; omega
    refine ⟨some a, cap, zs.take len, by rw [hlen]; exact hcs, ?_, fun x hx => wf_i64 (hwf x (List.mem_of_mem_take hx)), (fun h => by cases h), ?_⟩
    · intro j x hj
      have hjl := (List.getElem?_eq_some_iff.1 hj).1
      rw [hlen] at hjl
      have h0 := hcell 0 (by omega)
      have hs : a.spot = none := by
        have := World.cell?_spot h0
        simpa [Addr.add] using this
      obtain ⟨b, o, s⟩ := a
      simp only at hs
      subst hs
      have hcj := hcell j (by omega)
      rw [Addr.add_lit] at hcj
      rw [List.getElem?_take, if_pos hjl] at hj
      have hd : zs.getD j 0 = x := by simp [List.getD, hj]
      rw [hd] at hcj
      exact ⟨b, o, rfl, hcj⟩
    · rw [hx] at hf
      have := (fit_slice Try.underlying47 hf).1
      rw [bytesInt] at this
      simp only [lits, List.length_map, List.length_take, List.length_drop, reachBytes] at this
      rw [hlen]
      omega
set_option maxRecDepth 100000 in
theorem val_of {fuel : Nat} {cs : List Value} {x : DataW H × List MemPlace} (h : DataW.trod enc Try.prog W 0 sp held fuel 62 cs = some x) :
    ∃ v : Vl, cs = vCells v ∧ VlIn v := by
  obtain ⟨xs, n, rfl, hx, hl, hxl, hf⟩ := DataW.trod_struct Try.underlying62 h
  rw [cellsVal] at hl
  match cs, hl with
  | [c0, c1, c2, c3, c4, c5], _ =>
    have hx6 : xs.length = 6 := by simpa using hxl
    match xs, hx6 with
    | [y0, y1, y2, y3, y4, y5], _ =>
      have f0 := hf 0 _ rfl
      have f1 := hf 1 _ rfl
      have f2 := hf 2 _ rfl
      have f3 := hf 3 _ rfl
      have f4 := hf 4 _ rfl
      have f5 := hf 5 _ rfl
      simp only [cellsInt, cells64, cellsBool, List.drop, List.take, List.getElem?_cons_zero, List.getElem?_cons_succ] at f0 f1 f2 f3 f4 f5
      obtain ⟨k0, e0, _, w0⟩ := DataW.trod_int Try.underlying3 f0
      obtain ⟨k1, e1, _, w1⟩ := DataW.trod_int Try.underlying2 f1
      obtain ⟨k2, e2, _, w2⟩ := DataW.trod_int Try.underlying2 f2
      obtain ⟨k3, e3, _⟩ := DataW.trod_bool Try.underlying4 f3
      obtain ⟨k4, e4, _, w4⟩ := DataW.trod_int Try.underlying2 f4
      obtain ⟨k5, e5, _, w5⟩ := DataW.trod_int Try.underlying3 f5
      cases e0; cases e1; cases e2; cases e3; cases e4; cases e5
      exact ⟨⟨k0, k1, k2, k3, k4, k5⟩, rfl, wf_i64 w0, wf_i64 w1, wf_i64 w2, wf_i64 w4, wf_i64 w5⟩
theorem spot_of {a : Addr} {n : Nat} {cs : List Value} (h : W.cells? 0 (a.add (0 * n)) n = some cs) (hn : 0 < n) {v : Value} (hv : cs[0]? = some v) : a.spot = none := by
  have h0 := ((World.cells?_some h).2.2 0 hn).trans hv
  have := World.cell?_spot h0
  simpa [Addr.add] using this
theorem vals_of {fuel : Nat} {c : Value} {y : DataW H × List MemPlace} (h : DataW.trod enc Try.prog W 0 (fun _ => true) held fuel 48 [c] = some y) (hf : Fit 48 y.1) :
    ∃ fa fc, ∃ vs : List Vl, c = .slice fa vs.length fc ∧ ValsAt W fa vs ∧ (∀ v ∈ vs, VlIn v) ∧ (fa = none → fc = 0) ∧ vs.length * 48 ≤ 140737488355328 := by
  rcases open_slice Try.underlying48 h with ⟨hcs, _⟩ | ⟨a, len, cap, m, n, D, Pl, hcs, _, hl, hm, hmm, hx, hall⟩
  · simp at hcs
    exact ⟨none, 0, [], by rw [hcs]; rfl, (fun j x hj => by simp at hj), (fun x hx => by cases hx), fun _ => rfl, by simp⟩
  · simp at hcs
    rw [cellsVal] at hall
    have hm2 : m = cap := by simpa using hmm
    haveI : Inhabited Vl := ⟨⟨0, 0, 0, false, 0, 0⟩⟩
    obtain ⟨V, hV⟩ := choose_lt (α := Vl) (n := len) (p := fun i v => W.cells? 0 (a.add (i * 6)) 6 = some (vCells v) ∧ VlIn v) (fun i hi => by
      obtain ⟨cs', h1, h2⟩ := hall i (by omega)
      obtain ⟨v, rfl, hv⟩ := val_of h2
      exact ⟨v, h1, hv⟩)
    have hlen : ((List.range len).map V).length = len := by simp
    refine ⟨some a, cap, (List.range len).map V, by rw [hlen]; exact hcs, ?_, ?_, (fun h => by cases h), ?_⟩
    · intro j v hj
      have hjl : j < len := by have := (List.getElem?_eq_some_iff.1 hj).1; rwa [hlen] at this
      have hv : V j = v := by simpa [hjl] using hj
      have hc := (World.cells?_some (hV j hjl).1).2.2
      rw [hv] at hc
      have hs : a.spot = none := spot_of (hV 0 (by omega)).1 (by decide) (show (vCells (V 0))[0]? = some (.int .i64 (V 0).kind) from rfl)
      obtain ⟨b, o, s⟩ := a
      simp only at hs
      subst hs
      have key : ∀ i x, i < 6 → (vCells v)[i]? = some x → W.cell? ⟨b, o + (j * 6 + i), none⟩ = some x := by
        intro i x hi hx
        have := hc i hi
        rw [add_add, Addr.add_lit, hx] at this
        exact this
      refine ⟨b, o, rfl, ?_, ?_, ?_, ?_, ?_, ?_⟩
      · simpa using key 0 _ (by omega) rfl
      · simpa [Nat.add_assoc] using key 1 _ (by omega) rfl
      · simpa [Nat.add_assoc] using key 2 _ (by omega) rfl
      · simpa [Nat.add_assoc] using key 3 _ (by omega) rfl
      · simpa [Nat.add_assoc] using key 4 _ (by omega) rfl
      · simpa [Nat.add_assoc] using key 5 _ (by omega) rfl
    · intro v hv
      simp at hv
      obtain ⟨i, hi, rfl⟩ := hv
      exact (hV i hi).2
    · rw [hx] at hf
      have := (fit_slice Try.underlying48 hf).1
      rw [bytesVal] at this
      simp only [List.length_map, List.length_range, reachBytes] at this ⊢
      omega
set_option maxRecDepth 100000 in
theorem nd_of {fuel : Nat} {cs : List Value} {x : DataW H × List MemPlace} (h : DataW.trod enc Try.prog W 0 (fun _ => true) held fuel 50 cs = some x) (hfit : Fit 50 x.1) :
    ∃ c : N5, cs = nCells c ∧ NdIn c.n ∧ NdAt W c.fa c.ra c.va c.fc c.rc c.vc c.n := by
  obtain ⟨xs, n, rfl, hx, hl, hxl, hf⟩ := DataW.trod_struct Try.underlying50 h
  rw [cellsNode] at hl
  match cs, hl with
  | [c0, c1, c2, c3, c4], _ =>
    have hx5 : xs.length = 5 := by simpa using hxl
    match xs, hx5 with
    | [y0, y1, y2, y3, y4], _ =>
      have f0 := hf 0 _ rfl
      have f1 := hf 1 _ rfl
      have f2 := hf 2 _ rfl
      have f3 := hf 3 _ rfl
      have f4 := hf 4 _ rfl
      simp only [cellsInt, cellsInts, cellsVals, cellsBool, List.drop, List.take, List.getElem?_cons_zero, List.getElem?_cons_succ] at f0 f1 f2 f3 f4
      have hw : x.1.weights Try.prog 50 = y0.1.weights Try.prog 47 ++ (y1.1.weights Try.prog 47 ++ (y2.1.weights Try.prog 4 ++ (y3.1.weights Try.prog 3 ++ (y4.1.weights Try.prog 48 ++ [])))) := by
        rw [hx]
        show DataW.weights Try.prog 50 (.agg [y0.1, y1.1, y2.1, y3.1, y4.1]) = _
        rw [DataW.weights, Try.underlying50]
        simp [DataW.weightsEach]
      have g0 : Fit 47 y0.1 := fun z hz => hfit z (by rw [hw]; simp [hz])
      have g1 : Fit 47 y1.1 := fun z hz => hfit z (by rw [hw]; simp [hz])
      have g4 : Fit 48 y4.1 := fun z hz => hfit z (by rw [hw]; simp [hz])
      obtain ⟨fa, fc, fs, rfl, a0, b0, d0, s0⟩ := ints_of f0 g0
      obtain ⟨ra, rc, rs, rfl, a1, b1, d1, s1⟩ := ints_of f1 g1
      obtain ⟨k2, e2, _⟩ := DataW.trod_bool Try.underlying4 f2
      obtain ⟨k3, e3, _, w3⟩ := DataW.trod_int Try.underlying3 f3
      obtain ⟨va, vc, vs, rfl, a4, b4, d4, s4⟩ := vals_of f4 g4
      cases e2; cases e3
      exact ⟨⟨fa, fc, ra, rc, va, vc, ⟨fs, rs, k2, k3, vs⟩⟩, rfl, ⟨b0, b1, wf_i64 w3, b4, s0, s1, s4⟩, ⟨a0, a1, a4, d0, d1, d4⟩⟩
theorem nodes_of {fuel : Nat} {c : Value} {y : DataW H × List MemPlace} (h : DataW.trod enc Try.prog W 0 (fun _ => true) held fuel 22 [c] = some y) (hf : Fit 22 y.1) :
    ∃ fa fc, ∃ ns : List Nd, c = .slice fa ns.length fc ∧ NodesAt W fa ns ∧ (∀ n ∈ ns, NdIn n) ∧ ns.length * 88 ≤ 140737488355328 := by
  rcases open_slice Try.underlying22 h with ⟨hcs, _⟩ | ⟨a, len, cap, m, n, D, Pl, hcs, _, hl, hm, hmm, hx, hall⟩
  · simp at hcs
    exact ⟨none, 0, [], by rw [hcs]; rfl, (fun j x hj => by simp at hj), (fun x hx => by cases hx), by simp⟩
  · simp at hcs
    rw [cellsNode] at hall
    rw [hx] at hf
    have hfs := fit_slice Try.underlying22 hf
    have hm2 : m = cap := by simpa using hmm
    have hex : ∀ i, i < len → ∃ c : N5, W.cells? 0 (a.add (i * 5)) 5 = some (nCells c) ∧ NdIn c.n ∧ NdAt W c.fa c.ra c.va c.fc c.rc c.vc c.n := by
      intro i hi
      obtain ⟨cs', h1, h2⟩ := hall i (by omega)
      obtain ⟨c, rfl, hv⟩ := nd_of h2 (hfs.2 (D i) (by simp; exact ⟨i, hi, rfl⟩))
      exact ⟨c, h1, hv⟩
    haveI : Inhabited N5 := ⟨(⟨none, 0, none, 0, none, 0, ⟨[], [], false, 0, []⟩⟩ : N5)⟩
    obtain ⟨V, hV⟩ := choose_lt (α := N5) hex
    have hlen : ((List.range len).map (fun i => (V i).n)).length = len := by simp
    refine ⟨some a, cap, (List.range len).map (fun i => (V i).n), by rw [hlen]; exact hcs, ?_, ?_, ?_⟩
    · intro j nd hj
      have hjl : j < len := by have := (List.getElem?_eq_some_iff.1 hj).1; rwa [hlen] at this
      have hv : (V j).n = nd := by simpa [hjl] using hj
      subst hv
      have hc := (World.cells?_some (hV j hjl).1).2.2
      have hs : a.spot = none := spot_of (hV 0 (by omega)).1 (by decide) (show (nCells (V 0))[0]? = some (.slice (V 0).fa (V 0).n.facts.length (V 0).fc) from rfl)
      obtain ⟨b, o, s⟩ := a
      simp only at hs
      subst hs
      have key : ∀ i x, i < 5 → (nCells (V j))[i]? = some x → W.cell? ⟨b, o + (j * 5 + i), none⟩ = some x := by
        intro i x hi hx
        have := hc i hi
        rw [add_add, Addr.add_lit, hx] at this
        exact this
      refine ⟨b, o, (V j).fa, (V j).ra, (V j).va, (V j).fc, (V j).rc, (V j).vc, rfl, ?_, ?_, ?_, ?_, ?_, (hV j hjl).2.2⟩
      · simpa using key 0 _ (by omega) rfl
      · simpa [Nat.add_assoc] using key 1 _ (by omega) rfl
      · simpa [Nat.add_assoc] using key 2 _ (by omega) rfl
      · simpa [Nat.add_assoc] using key 3 _ (by omega) rfl
      · simpa [Nat.add_assoc] using key 4 _ (by omega) rfl
    · intro nd hv
      simp at hv
      obtain ⟨i, hi, rfl⟩ := hv
      exact (hV i hi).2.1
    · have := hfs.1
      rw [bytesNode] at this
      simp only [List.length_map, List.length_range, reachBytes] at this ⊢
      omega
set_option maxRecDepth 100000 in
theorem cert_of {fuel : Nat} {cs : List Value} {x : DataW H × List MemPlace} (h : DataW.trod enc Try.prog W 0 (fun _ => true) held fuel 24 cs = some x) (hfit : Fit 24 x.1) :
    ∃ (c : Ct) (na : Option Addr) (nc : Nat), cs = [.int .i64 c.problem, .int .i64 c.grade, .slice na c.nodes.length nc] ∧ CtIn c ∧ NodesAt W na c.nodes := by
  obtain ⟨xs, n, rfl, hx, hl, hxl, hf⟩ := DataW.trod_struct Try.underlying24 h
  rw [cellsCert] at hl
  match cs, hl with
  | [c0, c1, c2], _ =>
    have hx3 : xs.length = 3 := by simpa using hxl
    match xs, hx3 with
    | [y0, y1, y2], _ =>
      have f0 := hf 0 _ rfl
      have f1 := hf 1 _ rfl
      have f2 := hf 2 _ rfl
      simp only [cellsInt, cellsNodes, List.drop, List.take, List.getElem?_cons_zero, List.getElem?_cons_succ] at f0 f1 f2
      have hw : x.1.weights Try.prog 24 = y0.1.weights Try.prog 3 ++ (y1.1.weights Try.prog 3 ++ (y2.1.weights Try.prog 22 ++ [])) := by
        rw [hx]
        show DataW.weights Try.prog 24 (.agg [y0.1, y1.1, y2.1]) = _
        rw [DataW.weights, Try.underlying24]
        simp [DataW.weightsEach]
      have g2 : Fit 22 y2.1 := fun z hz => hfit z (by rw [hw]; simp [hz])
      obtain ⟨k0, e0, _, w0⟩ := DataW.trod_int Try.underlying3 f0
      obtain ⟨k1, e1, _, w1⟩ := DataW.trod_int Try.underlying3 f1
      obtain ⟨na, nc, ns, rfl, a2, b2, s2⟩ := nodes_of f2 g2
      cases e0; cases e1
      exact ⟨⟨k0, k1, ns⟩, na, nc, rfl, ⟨wf_i64 w0, wf_i64 w1, b2, s2⟩, a2⟩
end
end Go.Proofs.Ytmipbiligijcpaa
