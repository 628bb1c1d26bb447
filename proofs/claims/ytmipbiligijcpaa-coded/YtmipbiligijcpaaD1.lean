/- Certificates as they are read: values and nodes at a slice. -/
import Derived.Test.YtmipbiligijcpaaB
import Derived.Test.YtmipbiligijcpaaD0
namespace Go.Proofs.Ytmipbiligijcpaa
set_option linter.unusedVariables false
set_option linter.unusedSimpArgs false
open Go.RowKit Go.Proofs Go.Maps

/-- the slice reads as these values -/
def ValsAt (w : World) (ao : Option Addr) (vs : List Vl) : Prop := ∀ j v, vs[j]? = some v → ∃ b o, ao = some ⟨b, o, none⟩ ∧ w.cell? ⟨b, o + j * 6, none⟩ = some (.int .i64 v.kind) ∧ w.cell? ⟨b, o + j * 6 + 1, none⟩ = some (.int .i64 v.lo) ∧ w.cell? ⟨b, o + j * 6 + 2, none⟩ = some (.int .i64 v.hi) ∧ w.cell? ⟨b, o + j * 6 + 3, none⟩ = some (.bool v.early) ∧ w.cell? ⟨b, o + j * 6 + 4, none⟩ = some (.int .i64 v.first) ∧ w.cell? ⟨b, o + j * 6 + 5, none⟩ = some (.int .i64 v.rank)
/-- the three slices of a node read as its lists -/
structure NdAt (w : World) (fa ra va : Option Addr) (fc rc vc : Nat) (n : Nd) : Prop where
  facts : IntsAt w fa n.facts
  ranks : IntsAt w ra n.ranks
  vals : ValsAt w va n.vals
  fnil : fa = none → fc = 0
  rnil : ra = none → rc = 0
  vnil : va = none → vc = 0
/-- the slice reads as these nodes -/
def NodesAt (w : World) (ao : Option Addr) (ns : List Nd) : Prop := ∀ j n, ns[j]? = some n → ∃ b o fa ra va fc rc vc, ao = some ⟨b, o, none⟩ ∧ w.cell? ⟨b, o + j * 5, none⟩ = some (.slice fa n.facts.length fc) ∧ w.cell? ⟨b, o + j * 5 + 1, none⟩ = some (.slice ra n.ranks.length rc) ∧ w.cell? ⟨b, o + j * 5 + 2, none⟩ = some (.bool n.reached) ∧ w.cell? ⟨b, o + j * 5 + 3, none⟩ = some (.int .i64 n.rank) ∧ w.cell? ⟨b, o + j * 5 + 4, none⟩ = some (.slice va n.vals.length vc) ∧ NdAt w fa ra va fc rc vc n
theorem ValsAt.below {w w' : World} {ao : Option Addr} {vs : List Vl} (h : ValsAt w ao vs) (hb : Below w.heap.size w w') : ValsAt w' ao vs := by
  intro j v hj
  obtain ⟨b, o, h1, c0, c1, c2, c3, c4, c5⟩ := h j v hj
  exact ⟨b, o, h1, cell_stays c0 hb, cell_stays c1 hb, cell_stays c2 hb, cell_stays c3 hb, cell_stays c4 hb, cell_stays c5 hb⟩
theorem NdAt.below {w w' : World} {fa ra va : Option Addr} {fc rc vc : Nat} {n : Nd} (h : NdAt w fa ra va fc rc vc n) (hb : Below w.heap.size w w') : NdAt w' fa ra va fc rc vc n :=
  ⟨h.facts.below hb, h.ranks.below hb, h.vals.below hb, h.fnil, h.rnil, h.vnil⟩
theorem NodesAt.below {w w' : World} {ao : Option Addr} {ns : List Nd} (h : NodesAt w ao ns) (hb : Below w.heap.size w w') : NodesAt w' ao ns := by
  intro j n hj
  obtain ⟨b, o, fa, ra, va, fc, rc, vc, h1, c0, c1, c2, c3, c4, c5⟩ := h j n hj
  exact ⟨b, o, fa, ra, va, fc, rc, vc, h1, cell_stays c0 hb, cell_stays c1 hb, cell_stays c2 hb, cell_stays c3 hb, cell_stays c4 hb, c5.below hb⟩
/-- a number of 64 bits -/
def I64 (x : Int) : Prop := -9223372036854775808 ≤ x ∧ x ≤ 9223372036854775807
structure VlIn (v : Vl) : Prop where
  kind : I64 v.kind
  lo : I64 v.lo
  hi : I64 v.hi
  first : I64 v.first
  rank : I64 v.rank
/-- numbers of 64 bits, lists that a machine holds -/
structure NdIn (n : Nd) : Prop where
  facts : ∀ f ∈ n.facts, I64 f
  ranks : ∀ f ∈ n.ranks, I64 f
  rank : I64 n.rank
  vals : ∀ v ∈ n.vals, VlIn v
  fsz : n.facts.length * 8 ≤ 140737488355328
  rsz : n.ranks.length * 8 ≤ 140737488355328
  vsz : n.vals.length * 48 ≤ 140737488355328
structure CtIn (c : Ct) : Prop where
  problem : I64 c.problem
  grade : I64 c.grade
  nodes : ∀ n ∈ c.nodes, NdIn n
  sz : c.nodes.length * 88 ≤ 140737488355328
end Go.Proofs.Ytmipbiligijcpaa
