/- The book takes nodes: the walk. -/
import Derived.Test.YtmipbiligijcpaaBC
import Derived.Test.YtmipbiligijcpaaN14
namespace Go.Proofs.Ytmipbiligijcpaa
set_option linter.unusedVariables false
set_option linter.unusedSimpArgs false
open Go.RowKit Go.Proofs Go.Maps

abbrev pti (i : Nat) : List Value := [.int .i64 (-7 - ((i / 4 : Nat) : Int))]
abbrev ptv (i : Nat) : List Value := [.int .i64 (-7 - ((i / 4 : Nat) : Int)), .int .i64 0, .int .i64 0, .bool false, .int .i64 0, .int .i64 0]
abbrev ptn (i : Nat) : List Value := [.slice none 0 0, .slice none 0 0, .bool false, .int .i64 (-7 - ((i / 4 : Nat) : Int)), .slice none 0 0]
structure BN (W : World) (bb B : Nat) (l1 l4 l5 wn rn : Value) (s1 s4 s5 : List Value) : Prop where
  box : W.heap[bb]? = some (.cells (bookC l1 l4 l5 wn rn) 34 (0, 0))
  r1 : W.ownsRow B 47 1 l1 s1.length s1
  r4 : W.ownsRow B 48 1 l4 s4.length s4
  r5 : W.ownsRow B 22 1 l5 s5.length s5
  m1 : ∀ i v, s1[i]? = some v → MkAt W 3 (pti i) v
  m4 : ∀ i v, s4[i]? = some v → MkAt W 62 (ptv i) v
  m5 : ∀ i v, s5[i]? = some v → MkAt W 50 (ptn i) v
  base : B ≤ W.heap.size
theorem BN.lt {W : World} {bb B : Nat} {l1 l4 l5 wn rn : Value} {s1 s4 s5 : List Value} (h : BN W bb B l1 l4 l5 wn rn s1 s4 s5) : bb < W.heap.size := (Array.getElem?_eq_some_iff.1 h.box).1
theorem BN.below {W W' : World} {bb B : Nat} {l1 l4 l5 wn rn : Value} {s1 s4 s5 : List Value} (h : BN W bb B l1 l4 l5 wn rn s1 s4 s5) (hb : Below W.heap.size W W') : BN W' bb B l1 l4 l5 wn rn s1 s4 s5 :=
  ⟨(hb.block _ h.lt).trans h.box, own_below h.r1 hb, own_below h.r4 hb, own_below h.r5 hb, fun i v hv => (h.m1 i v hv).of_block (fun k hk => hb.block k ((h.m1 i v hv).lt k hk)), fun i v hv => (h.m4 i v hv).of_block (fun k hk => hb.block k ((h.m4 i v hv).lt k hk)), fun i v hv => (h.m5 i v hv).of_block (fun k hk => hb.block k ((h.m5 i v hv).lt k hk)), Nat.le_trans h.base hb.size⟩
/-- what the book's taking of lists leaves -/
structure NF (B lo hi : Nat) (w W : World) : Prop where
  below : Below B w W
  keep : ∀ k cur t, w.heap[k]? = some (.cells cur t (0, 0)) → t ≠ 34 → t ≠ 47 → t ≠ 48 → t ≠ 22 → ((t ≠ 3 ∧ t ≠ 62 ∧ t ≠ 50) ∨ ¬ (lo ≤ k ∧ k < hi)) → W.heap[k]? = w.heap[k]?
theorem NF.refl (B lo hi : Nat) (w : World) : NF B lo hi w w := ⟨Below.refl _ _, fun _ _ _ _ _ _ _ _ _ => rfl⟩
theorem NF.trans {B lo hi : Nat} {u v w : World} (h : NF B lo hi u v) (k : NF B lo hi v w) : NF B lo hi u w :=
  ⟨h.below.trans k.below, fun j cur t h1 a b c d e => (k.keep j cur t ((h.keep j cur t h1 a b c d e).trans h1) a b c d e).trans (h.keep j cur t h1 a b c d e)⟩
theorem NF.of_below {B lo hi : Nat} {u v : World} (h : Below u.heap.size u v) (hB : B ≤ u.heap.size) : NF B lo hi u v := ⟨h.mono hB, fun k cur t h1 _ _ _ _ _ => h.block k (Array.getElem?_eq_some_iff.1 h1).1⟩
theorem NF.wide {B lo hi lo' hi' : Nat} {u v : World} (h : NF B lo hi u v) (h1 : lo' ≤ lo) (h2 : hi ≤ hi') : NF B lo' hi' u v :=
  ⟨h.below, fun k cur t a b c d e f => h.keep k cur t a b c d e (by rcases f with f | f; exact Or.inl f; exact Or.inr (by omega))⟩
theorem PutS.nf1 {w W : World} {bb B n lo hi : Nat} {l1 l4 l5 l1' wn rn lv x y z : Value} {s1 s4 s5 xs pt : List Value} {cs' : Array Value} (hN : PutS w W bb B cs' 3 47 lv l1 l1' s1 pt x y z) (h : BN w bb B l1 l4 l5 wn rn s1 s4 s5) (hbb : B ≤ bb) (hl : w.ownsRow lo 3 1 lv n xs) (hlo : B ≤ lo) (hhi : ∀ k, lv.ownBlock = some k → k < hi) : NF B lo hi w W := by
  have hl' := own_mono hl hlo
  refine ⟨hN.fr.below h.base (fun k hk => ⟨by omega, ?_, ?_⟩), fun k cur t hk a b c d e => ?_⟩
  · intro e
    have := (hl.lt k e.symm).1
    omega
  · intro e
    have := (h.r1.lt k e.symm).1
    omega
  · refine hN.keep h.box h.r1 hl' hk a (by assumption) ?_
    rcases e with e | e
    · exact Or.inl (by first | exact e.1 | exact e.2.1 | exact e.2.2)
    · right
      intro e2
      exact e ⟨(hl.lt k e2.symm).1, hhi k e2.symm⟩
theorem BN.put1 {w W : World} {bb B n q : Nat} {lv l1 l4 l5 l1' wn rn x y z : Value} {s1 s4 s5 xs : List Value} (h : BN w bb B l1 l4 l5 wn rn s1 s4 s5) (hq : s1.length = 4 * q) (hl : w.ownsRow B 3 1 lv n xs) (hN : PutS w W bb B (bookC l1' l4 l5 wn rn) 3 47 lv l1 l1' s1 [.int .i64 (-7 - (q : Int))] x y z) (hd : ∀ v ∈ s1, ∀ k, v.ownBlock = some k → some k ≠ lv.ownBlock) : BN W bb B l1' l4 l5 wn rn (s1 ++ [lv, x, y, z]) s4 s5 := by
  refine ⟨hN.box, ?_, ?_, ?_, ?_, ?_, ?_, Nat.le_trans h.base hN.fr.size⟩
  · rw [List.length_append]; exact hN.row
  · exact own_by h.r4 (fun k cur hk hc => hN.keep h.box h.r1 hl hc (by decide) (by decide) (Or.inl (by decide)))
  · exact own_by h.r5 (fun k cur hk hc => hN.keep h.box h.r1 hl hc (by decide) (by decide) (Or.inl (by decide)))
  · intro i v hv
    by_cases hi : i < s1.length
    · rw [List.getElem?_append_left hi] at hv
      have hm := h.m1 i v hv
      refine hm.of_block (fun k hk => ?_)
      obtain ⟨cur, hc⟩ := hm.ty k hk
      exact hN.keep h.box h.r1 hl hc (by decide) (by decide) (Or.inr (hd v (List.mem_of_getElem? hv) k hk))
    · rw [List.getElem?_append_right (by omega)] at hv
      have h4 : i - s1.length < 4 := by have := (List.getElem?_eq_some_iff.1 hv).1; simpa using this
      have hiq : i / 4 = q := by omega
      unfold pti
      rw [hiq]
      exact (hN.mks v (List.mem_of_getElem? hv)).1
  · intro i v hv
    have hm := h.m4 i v hv
    refine hm.of_block (fun k hk => ?_)
    obtain ⟨cur, hc⟩ := hm.ty k hk
    exact hN.keep h.box h.r1 hl hc (by decide) (by decide) (Or.inl (by decide))
  · intro i v hv
    have hm := h.m5 i v hv
    refine hm.of_block (fun k hk => ?_)
    obtain ⟨cur, hc⟩ := hm.ty k hk
    exact hN.keep h.box h.r1 hl hc (by decide) (by decide) (Or.inl (by decide))
theorem PutS.nf4 {w W : World} {bb B n lo hi : Nat} {l1 l4 l5 l4' wn rn lv x y z : Value} {s1 s4 s5 xs pt : List Value} {cs' : Array Value} (hN : PutS w W bb B cs' 62 48 lv l4 l4' s4 pt x y z) (h : BN w bb B l1 l4 l5 wn rn s1 s4 s5) (hbb : B ≤ bb) (hl : w.ownsRow lo 62 6 lv n xs) (hlo : B ≤ lo) (hhi : ∀ k, lv.ownBlock = some k → k < hi) : NF B lo hi w W := by
  have hl' := own_mono hl hlo
  refine ⟨hN.fr.below h.base (fun k hk => ⟨by omega, ?_, ?_⟩), fun k cur t hk a b c d e => ?_⟩
  · intro e
    have := (hl.lt k e.symm).1
    omega
  · intro e
    have := (h.r4.lt k e.symm).1
    omega
  · refine hN.keep h.box h.r4 hl' hk a (by assumption) ?_
    rcases e with e | e
    · exact Or.inl (by first | exact e.1 | exact e.2.1 | exact e.2.2)
    · right
      intro e2
      exact e ⟨(hl.lt k e2.symm).1, hhi k e2.symm⟩
theorem BN.put4 {w W : World} {bb B n q : Nat} {lv l1 l4 l5 l4' wn rn x y z : Value} {s1 s4 s5 xs : List Value} (h : BN w bb B l1 l4 l5 wn rn s1 s4 s5) (hq : s4.length = 4 * q) (hl : w.ownsRow B 62 6 lv n xs) (hN : PutS w W bb B (bookC l1 l4' l5 wn rn) 62 48 lv l4 l4' s4 [.int .i64 (-7 - (q : Int)), .int .i64 0, .int .i64 0, .bool false, .int .i64 0, .int .i64 0] x y z) (hd : ∀ v ∈ s4, ∀ k, v.ownBlock = some k → some k ≠ lv.ownBlock) : BN W bb B l1 l4' l5 wn rn s1 (s4 ++ [lv, x, y, z]) s5 := by
  refine ⟨hN.box, ?_, ?_, ?_, ?_, ?_, ?_, Nat.le_trans h.base hN.fr.size⟩
  · exact own_by h.r1 (fun k cur hk hc => hN.keep h.box h.r4 hl hc (by decide) (by decide) (Or.inl (by decide)))
  · rw [List.length_append]; exact hN.row
  · exact own_by h.r5 (fun k cur hk hc => hN.keep h.box h.r4 hl hc (by decide) (by decide) (Or.inl (by decide)))
  · intro i v hv
    have hm := h.m1 i v hv
    refine hm.of_block (fun k hk => ?_)
    obtain ⟨cur, hc⟩ := hm.ty k hk
    exact hN.keep h.box h.r4 hl hc (by decide) (by decide) (Or.inl (by decide))
  · intro i v hv
    by_cases hi : i < s4.length
    · rw [List.getElem?_append_left hi] at hv
      have hm := h.m4 i v hv
      refine hm.of_block (fun k hk => ?_)
      obtain ⟨cur, hc⟩ := hm.ty k hk
      exact hN.keep h.box h.r4 hl hc (by decide) (by decide) (Or.inr (hd v (List.mem_of_getElem? hv) k hk))
    · rw [List.getElem?_append_right (by omega)] at hv
      have h4 : i - s4.length < 4 := by have := (List.getElem?_eq_some_iff.1 hv).1; simpa using this
      have hiq : i / 4 = q := by omega
      unfold ptv
      rw [hiq]
      exact (hN.mks v (List.mem_of_getElem? hv)).1
  · intro i v hv
    have hm := h.m5 i v hv
    refine hm.of_block (fun k hk => ?_)
    obtain ⟨cur, hc⟩ := hm.ty k hk
    exact hN.keep h.box h.r4 hl hc (by decide) (by decide) (Or.inl (by decide))
theorem PutS.nf5 {w W : World} {bb B n lo hi : Nat} {l1 l4 l5 l5' wn rn lv x y z : Value} {s1 s4 s5 xs pt : List Value} {cs' : Array Value} (hN : PutS w W bb B cs' 50 22 lv l5 l5' s5 pt x y z) (h : BN w bb B l1 l4 l5 wn rn s1 s4 s5) (hbb : B ≤ bb) (hl : w.ownsRow lo 50 5 lv n xs) (hlo : B ≤ lo) (hhi : ∀ k, lv.ownBlock = some k → k < hi) : NF B lo hi w W := by
  have hl' := own_mono hl hlo
  refine ⟨hN.fr.below h.base (fun k hk => ⟨by omega, ?_, ?_⟩), fun k cur t hk a b c d e => ?_⟩
  · intro e
    have := (hl.lt k e.symm).1
    omega
  · intro e
    have := (h.r5.lt k e.symm).1
    omega
  · refine hN.keep h.box h.r5 hl' hk a (by assumption) ?_
    rcases e with e | e
    · exact Or.inl (by first | exact e.1 | exact e.2.1 | exact e.2.2)
    · right
      intro e2
      exact e ⟨(hl.lt k e2.symm).1, hhi k e2.symm⟩
theorem BN.put5 {w W : World} {bb B n q : Nat} {lv l1 l4 l5 l5' wn rn x y z : Value} {s1 s4 s5 xs : List Value} (h : BN w bb B l1 l4 l5 wn rn s1 s4 s5) (hq : s5.length = 4 * q) (hl : w.ownsRow B 50 5 lv n xs) (hN : PutS w W bb B (bookC l1 l4 l5' wn rn) 50 22 lv l5 l5' s5 [.slice none 0 0, .slice none 0 0, .bool false, .int .i64 (-7 - (q : Int)), .slice none 0 0] x y z) (hd : ∀ v ∈ s5, ∀ k, v.ownBlock = some k → some k ≠ lv.ownBlock) : BN W bb B l1 l4 l5' wn rn s1 s4 (s5 ++ [lv, x, y, z]) := by
  refine ⟨hN.box, ?_, ?_, ?_, ?_, ?_, ?_, Nat.le_trans h.base hN.fr.size⟩
  · exact own_by h.r1 (fun k cur hk hc => hN.keep h.box h.r5 hl hc (by decide) (by decide) (Or.inl (by decide)))
  · exact own_by h.r4 (fun k cur hk hc => hN.keep h.box h.r5 hl hc (by decide) (by decide) (Or.inl (by decide)))
  · rw [List.length_append]; exact hN.row
  · intro i v hv
    have hm := h.m1 i v hv
    refine hm.of_block (fun k hk => ?_)
    obtain ⟨cur, hc⟩ := hm.ty k hk
    exact hN.keep h.box h.r5 hl hc (by decide) (by decide) (Or.inl (by decide))
  · intro i v hv
    have hm := h.m4 i v hv
    refine hm.of_block (fun k hk => ?_)
    obtain ⟨cur, hc⟩ := hm.ty k hk
    exact hN.keep h.box h.r5 hl hc (by decide) (by decide) (Or.inl (by decide))
  · intro i v hv
    by_cases hi : i < s5.length
    · rw [List.getElem?_append_left hi] at hv
      have hm := h.m5 i v hv
      refine hm.of_block (fun k hk => ?_)
      obtain ⟨cur, hc⟩ := hm.ty k hk
      exact hN.keep h.box h.r5 hl hc (by decide) (by decide) (Or.inr (hd v (List.mem_of_getElem? hv) k hk))
    · rw [List.getElem?_append_right (by omega)] at hv
      have h4 : i - s5.length < 4 := by have := (List.getElem?_eq_some_iff.1 hv).1; simpa using this
      have hiq : i / 4 = q := by omega
      unfold ptn
      rw [hiq]
      exact (hN.mks v (List.mem_of_getElem? hv)).1
end Go.Proofs.Ytmipbiligijcpaa
namespace Go.Proofs.Ytmipbiligijcpaa
set_option linter.unusedVariables false
set_option linter.unusedSimpArgs false
open Go.RowKit Go.Proofs Go.Maps

/-- nodes whose memory is their owner's: rows that lie apart, in the blocks from lo to hi -/
structure NdS (w : World) (lo hi : Nat) (na : Option Addr) (nc : Nat) (cl : List N5) : Prop where
  row : w.ownsRow lo 50 5 (.slice na cl.length nc) cl.length (nRow cl)
  ok : ∀ x ∈ cl, NvOk w lo x
  ap : ApL cl
  rhi : ∀ k, (Value.slice na cl.length nc).ownBlock = some k → k < hi
  bhi : ∀ x ∈ cl, ∀ k ∈ blks x, k < hi
  sz : ∀ x ∈ cl, x.n.facts.length ≤ 70000 ∧ x.n.ranks.length ≤ 70000 ∧ x.n.vals.length ≤ 70000
  len : cl.length ≤ 60
theorem NdS.below {w w' : World} {lo hi : Nat} {na : Option Addr} {nc : Nat} {cl : List N5} (h : NdS w lo hi na nc cl) (hb : Below w.heap.size w w') : NdS w' lo hi na nc cl :=
  ⟨own_below h.row hb, fun x hx => ⟨own_below (h.ok x hx).f hb, own_below (h.ok x hx).r hb, own_below (h.ok x hx).v hb, (h.ok x hx).ap⟩, h.ap, h.rhi, h.bhi, h.sz, h.len⟩
theorem mem_f {x : N5} {k : Nat} (h : x.fv.ownBlock = some k) : k ∈ blks x := by simp [blks, List.mem_filterMap, h]
theorem mem_r {x : N5} {k : Nat} (h : x.rv.ownBlock = some k) : k ∈ blks x := by simp [blks, List.mem_filterMap, h]
theorem mem_v {x : N5} {k : Nat} (h : x.vv.ownBlock = some k) : k ∈ blks x := by simp [blks, List.mem_filterMap, h]
theorem blks_cases {x : N5} {k : Nat} (h : k ∈ blks x) : x.fv.ownBlock = some k ∨ x.rv.ownBlock = some k ∨ x.vv.ownBlock = some k := by
  simp only [blks, List.mem_filterMap, id, List.mem_cons, List.not_mem_nil, or_false] at h
  obtain ⟨a, ha, hb⟩ := h
  subst hb
  rcases ha with ha | ha | ha
  · exact Or.inl ha.symm
  · exact Or.inr (Or.inl ha.symm)
  · exact Or.inr (Or.inr ha.symm)
/-- while the book takes nodes: Tk tells the blocks that are taken -/
structure NJ (w wr : World) (bb B lo hi Z n1 n4 : Nat) (l1 l4 l5 wn rn : Value) (s1 s4 s5 : List Value) (na : Option Addr) (nc : Nat) (cl : List N5) (Tk : Nat → Prop) : Prop where
  bk : BN wr bb B l1 l4 l5 wn rn s1 s4 s5
  len1 : s1.length = 4 * n1
  len4 : s4.length = 4 * n4
  v1 : ∀ v ∈ s1, ∀ k, v.ownBlock = some k → (k < lo ∨ Z ≤ k) ∨ Tk k
  v4 : ∀ v ∈ s4, ∀ k, v.ownBlock = some k → (k < lo ∨ Z ≤ k) ∨ Tk k
  fs : ∀ x ∈ cl, (∀ k, x.fv.ownBlock = some k → ¬ Tk k) → wr.ownsRow lo 3 1 x.fv x.n.facts.length (x.n.facts.map (Value.int .i64))
  rs : ∀ x ∈ cl, (∀ k, x.rv.ownBlock = some k → ¬ Tk k) → wr.ownsRow lo 3 1 x.rv x.n.ranks.length (x.n.ranks.map (Value.int .i64))
  vs : ∀ x ∈ cl, (∀ k, x.vv.ownBlock = some k → ¬ Tk k) → wr.ownsRow lo 62 6 x.vv x.n.vals.length (vRow x.n.vals)
  row : wr.ownsRow lo 50 5 (.slice na cl.length nc) cl.length (nRow cl)
  nf : NF B lo hi w wr
  kn : ∀ (k : Nat) (cur : Array Value), w.heap[k]? = some (Obj.cells cur 22 (0, 0)) → wr.heap[k]? = w.heap[k]?
  bb : B ≤ bb
  lo : B ≤ lo
  hi : hi ≤ Z
  z : Z ≤ wr.heap.size
theorem NJ.start {w : World} {bb B lo hi Z n1 n4 : Nat} {l1 l4 l5 wn rn : Value} {s1 s4 s5 : List Value} {na : Option Addr} {nc : Nat} {cl : List N5} (h : BN w bb B l1 l4 l5 wn rn s1 s4 s5) (hT : NdS w lo hi na nc cl) (h1 : s1.length = 4 * n1) (h4 : s4.length = 4 * n4) (hc1 : ∀ v ∈ s1, ∀ k, v.ownBlock = some k → k < lo ∨ Z ≤ k) (hc4 : ∀ v ∈ s4, ∀ k, v.ownBlock = some k → k < lo ∨ Z ≤ k) (hbb : B ≤ bb) (hlo : B ≤ lo) (hhi : hi ≤ Z) (hz : Z ≤ w.heap.size) : NJ w w bb B lo hi Z n1 n4 l1 l4 l5 wn rn s1 s4 s5 na nc cl (fun _ => False) :=
  ⟨h, h1, h4, fun v hv k hk => Or.inl (hc1 v hv k hk), fun v hv k hk => Or.inl (hc4 v hv k hk), fun x hx _ => (hT.ok x hx).f, fun x hx _ => (hT.ok x hx).r, fun x hx _ => (hT.ok x hx).v, hT.row, NF.refl _ _ _ _, fun _ _ _ => rfl, hbb, hlo, hhi, hz⟩
theorem NJ.congr {w wr : World} {bb B lo hi Z n1 n4 : Nat} {l1 l4 l5 wn rn : Value} {s1 s4 s5 : List Value} {na : Option Addr} {nc : Nat} {cl : List N5} {Tk Tk' : Nat → Prop} (h : NJ w wr bb B lo hi Z n1 n4 l1 l4 l5 wn rn s1 s4 s5 na nc cl Tk) (e : ∀ k, Tk k ↔ Tk' k) : NJ w wr bb B lo hi Z n1 n4 l1 l4 l5 wn rn s1 s4 s5 na nc cl Tk' := by
  have : Tk = Tk' := funext (fun k => propext (e k))
  rw [← this]
  exact h
theorem NJ.f {w wr W : World} {bb B lo hi Z n1 n4 : Nat} {l1 l4 l5 wn rn l1' y1 y2 y3 : Value} {s1 s4 s5 : List Value} {na : Option Addr} {nc : Nat} {cl : List N5} {Tk : Nat → Prop} {x : N5} (h : NJ w wr bb B lo hi Z n1 n4 l1 l4 l5 wn rn s1 s4 s5 na nc cl Tk) (hT : NdS w lo hi na nc cl) (hx : x ∈ cl) (hnt : ∀ k, x.fv.ownBlock = some k → ¬ Tk k) (hN : PutS wr W bb B (bookC l1' l4 l5 wn rn) 3 47 x.fv l1 l1' s1 [.int .i64 (-7 - (n1 : Int))] y1 y2 y3) : NJ w W bb B lo hi Z (n1 + 1) n4 l1' l4 l5 wn rn (s1 ++ [x.fv, y1, y2, y3]) s4 s5 na nc cl (fun k => Tk k ∨ x.fv.ownBlock = some k) := by
  have hl := h.fs x hx hnt
  have hlB := own_mono hl h.lo
  have hkhi : ∀ k, x.fv.ownBlock = some k → lo ≤ k ∧ k < hi := fun k hk => ⟨(hl.lt k hk).1, hT.bhi x hx k (mem_f hk)⟩
  have hd : ∀ v ∈ s1, ∀ k, v.ownBlock = some k → some k ≠ x.fv.ownBlock := by
    intro v hv k hk e
    have h1 := hkhi k e.symm
    have h2 := h.hi
    rcases h.v1 v hv k hk with h3 | h3
    · omega
    · exact hnt k e.symm h3
  have hz := h.z
  have hzs := hN.fr.size
  have hnew : ∀ v ∈ s1 ++ [x.fv, y1, y2, y3], ∀ k, v.ownBlock = some k → (k < lo ∨ Z ≤ k) ∨ (Tk k ∨ x.fv.ownBlock = some k) := by
    intro v hv k hk
    rcases List.mem_append.1 hv with hv | hv
    · rcases h.v1 v hv k hk with h3 | h3
      · exact Or.inl h3
      · exact Or.inr (Or.inl h3)
    · rcases (hN.mks v hv).2 with e | ⟨q, e, hq⟩
      · exact Or.inr (Or.inr (e.symm.trans hk))
      · rw [e] at hk
        cases hk
        exact Or.inl (Or.inr (by omega))
  refine ⟨h.bk.put1 h.len1 hlB hN hd, ?_, ?_, ?_, ?_, ?_, ?_, ?_, ?_, h.nf.trans (hN.nf1 h.bk h.bb hl h.lo (fun k hk => (hkhi k hk).2)), fun k cur hk => (hN.keep h.bk.box h.bk.r1 hlB ((h.kn k cur hk).trans hk) (by decide) (by decide) (Or.inl (by decide))).trans (h.kn k cur hk), h.bb, h.lo, h.hi, by omega⟩
  · rw [List.length_append, h.len1]; simp; omega
  · exact h.len4
  · exact hnew
  · intro v hv k hk
    rcases h.v4 v hv k hk with h3 | h3
    · exact Or.inl h3
    · exact Or.inr (Or.inl h3)
  · intro x' hx' hn
    refine own_by (h.fs x' hx' (fun k hk e => hn k hk (Or.inl e))) (fun k cur hk hc => hN.keep h.bk.box h.bk.r1 hlB hc (by decide) (by decide) (Or.inr (fun e => hn k hk (Or.inr e.symm))))
  · intro x' hx' hn
    refine own_by (h.rs x' hx' (fun k hk e => hn k hk (Or.inl e))) (fun k cur hk hc => hN.keep h.bk.box h.bk.r1 hlB hc (by decide) (by decide) (Or.inr (fun e => hn k hk (Or.inr e.symm))))
  · intro x' hx' hn
    refine own_by (h.vs x' hx' (fun k hk e => hn k hk (Or.inl e))) (fun k cur hk hc => hN.keep h.bk.box h.bk.r1 hlB hc (by decide) (by decide) (Or.inl (by decide)))
  · exact own_by h.row (fun k cur hk hc => hN.keep h.bk.box h.bk.r1 hlB hc (by decide) (by decide) (Or.inl (by decide)))
theorem NJ.r {w wr W : World} {bb B lo hi Z n1 n4 : Nat} {l1 l4 l5 wn rn l1' y1 y2 y3 : Value} {s1 s4 s5 : List Value} {na : Option Addr} {nc : Nat} {cl : List N5} {Tk : Nat → Prop} {x : N5} (h : NJ w wr bb B lo hi Z n1 n4 l1 l4 l5 wn rn s1 s4 s5 na nc cl Tk) (hT : NdS w lo hi na nc cl) (hx : x ∈ cl) (hnt : ∀ k, x.rv.ownBlock = some k → ¬ Tk k) (hN : PutS wr W bb B (bookC l1' l4 l5 wn rn) 3 47 x.rv l1 l1' s1 [.int .i64 (-7 - (n1 : Int))] y1 y2 y3) : NJ w W bb B lo hi Z (n1 + 1) n4 l1' l4 l5 wn rn (s1 ++ [x.rv, y1, y2, y3]) s4 s5 na nc cl (fun k => Tk k ∨ x.rv.ownBlock = some k) := by
  have hl := h.rs x hx hnt
  have hlB := own_mono hl h.lo
  have hkhi : ∀ k, x.rv.ownBlock = some k → lo ≤ k ∧ k < hi := fun k hk => ⟨(hl.lt k hk).1, hT.bhi x hx k (mem_r hk)⟩
  have hd : ∀ v ∈ s1, ∀ k, v.ownBlock = some k → some k ≠ x.rv.ownBlock := by
    intro v hv k hk e
    have h1 := hkhi k e.symm
    have h2 := h.hi
    rcases h.v1 v hv k hk with h3 | h3
    · omega
    · exact hnt k e.symm h3
  have hz := h.z
  have hzs := hN.fr.size
  have hnew : ∀ v ∈ s1 ++ [x.rv, y1, y2, y3], ∀ k, v.ownBlock = some k → (k < lo ∨ Z ≤ k) ∨ (Tk k ∨ x.rv.ownBlock = some k) := by
    intro v hv k hk
    rcases List.mem_append.1 hv with hv | hv
    · rcases h.v1 v hv k hk with h3 | h3
      · exact Or.inl h3
      · exact Or.inr (Or.inl h3)
    · rcases (hN.mks v hv).2 with e | ⟨q, e, hq⟩
      · exact Or.inr (Or.inr (e.symm.trans hk))
      · rw [e] at hk
        cases hk
        exact Or.inl (Or.inr (by omega))
  refine ⟨h.bk.put1 h.len1 hlB hN hd, ?_, ?_, ?_, ?_, ?_, ?_, ?_, ?_, h.nf.trans (hN.nf1 h.bk h.bb hl h.lo (fun k hk => (hkhi k hk).2)), fun k cur hk => (hN.keep h.bk.box h.bk.r1 hlB ((h.kn k cur hk).trans hk) (by decide) (by decide) (Or.inl (by decide))).trans (h.kn k cur hk), h.bb, h.lo, h.hi, by omega⟩
  · rw [List.length_append, h.len1]; simp; omega
  · exact h.len4
  · exact hnew
  · intro v hv k hk
    rcases h.v4 v hv k hk with h3 | h3
    · exact Or.inl h3
    · exact Or.inr (Or.inl h3)
  · intro x' hx' hn
    refine own_by (h.fs x' hx' (fun k hk e => hn k hk (Or.inl e))) (fun k cur hk hc => hN.keep h.bk.box h.bk.r1 hlB hc (by decide) (by decide) (Or.inr (fun e => hn k hk (Or.inr e.symm))))
  · intro x' hx' hn
    refine own_by (h.rs x' hx' (fun k hk e => hn k hk (Or.inl e))) (fun k cur hk hc => hN.keep h.bk.box h.bk.r1 hlB hc (by decide) (by decide) (Or.inr (fun e => hn k hk (Or.inr e.symm))))
  · intro x' hx' hn
    refine own_by (h.vs x' hx' (fun k hk e => hn k hk (Or.inl e))) (fun k cur hk hc => hN.keep h.bk.box h.bk.r1 hlB hc (by decide) (by decide) (Or.inl (by decide)))
  · exact own_by h.row (fun k cur hk hc => hN.keep h.bk.box h.bk.r1 hlB hc (by decide) (by decide) (Or.inl (by decide)))
theorem NJ.v {w wr W : World} {bb B lo hi Z n1 n4 : Nat} {l1 l4 l5 wn rn l4' y1 y2 y3 : Value} {s1 s4 s5 : List Value} {na : Option Addr} {nc : Nat} {cl : List N5} {Tk : Nat → Prop} {x : N5} (h : NJ w wr bb B lo hi Z n1 n4 l1 l4 l5 wn rn s1 s4 s5 na nc cl Tk) (hT : NdS w lo hi na nc cl) (hx : x ∈ cl) (hnt : ∀ k, x.vv.ownBlock = some k → ¬ Tk k) (hN : PutS wr W bb B (bookC l1 l4' l5 wn rn) 62 48 x.vv l4 l4' s4 [.int .i64 (-7 - (n4 : Int)), .int .i64 0, .int .i64 0, .bool false, .int .i64 0, .int .i64 0] y1 y2 y3) : NJ w W bb B lo hi Z n1 (n4 + 1) l1 l4' l5 wn rn s1 (s4 ++ [x.vv, y1, y2, y3]) s5 na nc cl (fun k => Tk k ∨ x.vv.ownBlock = some k) := by
  have hl := h.vs x hx hnt
  have hlB := own_mono hl h.lo
  have hkhi : ∀ k, x.vv.ownBlock = some k → lo ≤ k ∧ k < hi := fun k hk => ⟨(hl.lt k hk).1, hT.bhi x hx k (mem_v hk)⟩
  have hd : ∀ v ∈ s4, ∀ k, v.ownBlock = some k → some k ≠ x.vv.ownBlock := by
    intro v hv k hk e
    have h1 := hkhi k e.symm
    have h2 := h.hi
    rcases h.v4 v hv k hk with h3 | h3
    · omega
    · exact hnt k e.symm h3
  have hz := h.z
  have hzs := hN.fr.size
  have hnew : ∀ v ∈ s4 ++ [x.vv, y1, y2, y3], ∀ k, v.ownBlock = some k → (k < lo ∨ Z ≤ k) ∨ (Tk k ∨ x.vv.ownBlock = some k) := by
    intro v hv k hk
    rcases List.mem_append.1 hv with hv | hv
    · rcases h.v4 v hv k hk with h3 | h3
      · exact Or.inl h3
      · exact Or.inr (Or.inl h3)
    · rcases (hN.mks v hv).2 with e | ⟨q, e, hq⟩
      · exact Or.inr (Or.inr (e.symm.trans hk))
      · rw [e] at hk
        cases hk
        exact Or.inl (Or.inr (by omega))
  refine ⟨h.bk.put4 h.len4 hlB hN hd, ?_, ?_, ?_, ?_, ?_, ?_, ?_, ?_, h.nf.trans (hN.nf4 h.bk h.bb hl h.lo (fun k hk => (hkhi k hk).2)), fun k cur hk => (hN.keep h.bk.box h.bk.r4 hlB ((h.kn k cur hk).trans hk) (by decide) (by decide) (Or.inl (by decide))).trans (h.kn k cur hk), h.bb, h.lo, h.hi, by omega⟩
  · exact h.len1
  · rw [List.length_append, h.len4]; simp; omega
  · intro v hv k hk
    rcases h.v1 v hv k hk with h3 | h3
    · exact Or.inl h3
    · exact Or.inr (Or.inl h3)
  · exact hnew
  · intro x' hx' hn
    refine own_by (h.fs x' hx' (fun k hk e => hn k hk (Or.inl e))) (fun k cur hk hc => hN.keep h.bk.box h.bk.r4 hlB hc (by decide) (by decide) (Or.inl (by decide)))
  · intro x' hx' hn
    refine own_by (h.rs x' hx' (fun k hk e => hn k hk (Or.inl e))) (fun k cur hk hc => hN.keep h.bk.box h.bk.r4 hlB hc (by decide) (by decide) (Or.inl (by decide)))
  · intro x' hx' hn
    refine own_by (h.vs x' hx' (fun k hk e => hn k hk (Or.inl e))) (fun k cur hk hc => hN.keep h.bk.box h.bk.r4 hlB hc (by decide) (by decide) (Or.inr (fun e => hn k hk (Or.inr e.symm))))
  · exact own_by h.row (fun k cur hk hc => hN.keep h.bk.box h.bk.r4 hlB hc (by decide) (by decide) (Or.inl (by decide)))
/-- the blocks of the first i nodes -/
def TkN (cl : List N5) (i k : Nat) : Prop := ∃ j x, j < i ∧ cl[j]? = some x ∧ k ∈ blks x
theorem ap_at {cl : List N5} (h : ApL cl) {i j : Nat} {x y : N5} (hi : cl[i]? = some x) (hj : cl[j]? = some y) (hji : j < i) : ∀ a ∈ blks y, ∀ b ∈ blks x, a < b := by
  obtain ⟨h1, rfl⟩ := List.getElem?_eq_some_iff.1 hi
  obtain ⟨h2, rfl⟩ := List.getElem?_eq_some_iff.1 hj
  exact List.pairwise_iff_getElem.1 h j i h2 h1 hji
theorem free_at {cl : List N5} (h : ApL cl) {i k : Nat} {x : N5} (hi : cl[i]? = some x) (hk : k ∈ blks x) : ¬ TkN cl i k := by
  rintro ⟨j, y, hj, hy, hky⟩
  have := ap_at h hi hy hj k hky k hk
  omega
theorem tk_next {cl : List N5} {i : Nat} {x : N5} (hi : cl[i]? = some x) (k : Nat) : (((TkN cl i k ∨ x.fv.ownBlock = some k) ∨ x.rv.ownBlock = some k) ∨ x.vv.ownBlock = some k) ↔ TkN cl (i + 1) k := by
  constructor
  · rintro (((⟨j, y, hj, hy, hk⟩ | h) | h) | h)
    · exact ⟨j, y, by omega, hy, hk⟩
    · exact ⟨i, x, by omega, hi, mem_f h⟩
    · exact ⟨i, x, by omega, hi, mem_r h⟩
    · exact ⟨i, x, by omega, hi, mem_v h⟩
  · rintro ⟨j, y, hj, hy, hk⟩
    by_cases e : j = i
    · subst e
      rw [hi] at hy
      cases hy
      rcases blks_cases hk with h | h | h
      · exact Or.inl (Or.inl (Or.inr h))
      · exact Or.inl (Or.inr h)
      · exact Or.inr h
    · exact Or.inl (Or.inl (Or.inl ⟨j, y, by omega, hy, hk⟩))
end Go.Proofs.Ytmipbiligijcpaa
namespace Go.Proofs.Ytmipbiligijcpaa
set_option linter.unusedVariables false
set_option linter.unusedSimpArgs false
open Go.RowKit Go.Proofs Go.Maps

theorem infoNs : (Try.prog.info? 22).map (fun i => (i.zero, i.size, i.bytes)) = some (some (.slice none 0 0), 1, 24) := by kernel_rfl
theorem sizes88 (n : Nat) (h : n ≤ 60) : n + 1 ≤ maxLen ∧ (n + 1) * 88 ≤ 140737488355328 ∧ n + 1 + 1 ≤ maxLen ∧ (n + 1 + 1) * 88 ≤ 140737488355328 ∧ n + 1 + 1 + 1 ≤ maxLen ∧ (n + 1 + 1 + 1) * 88 ≤ 140737488355328 := by
  have : 80000 ≤ maxLen := by decide
  omega
theorem one_cons {a : Value} {l : List Value} (ha : a.oneCell' = true) (hl : ∀ u ∈ l, u.oneCell' = true) : ∀ u ∈ a :: l, u.oneCell' = true := by
  intro u hu
  rcases List.mem_cons.1 hu with rfl | hu
  · exact ha
  · exact hl u hu
theorem one5 (q : Nat) : ∀ u ∈ [Value.slice none 0 0, .slice none 0 0, .bool false, .int .i64 (-7 - (q : Int)), .slice none 0 0], u.oneCell' = true := one_cons rfl (one_cons rfl (one_cons rfl (one_cons rfl (one_cons rfl (fun u hu => by cases hu)))))
theorem wrapm (q : Nat) (h : q ≤ 100000) : wrap64 (q : Int) = q ∧ wrap64 (-7 - (q : Int)) = -7 - q := by
  unfold wrap64
  omega
theorem news5 (W : World) (a0 a1 a2 a3 a4 : Value) : ∀ (j : Nat) (u : Value), [a0, a1, a2, a3, a4][j]? = some u → (W.alloc (.cells #[a0, a1, a2, a3, a4] 50)).cell? ((⟨W.heap.size, 0, none⟩ : Addr).add j) = some u := by
  intro j u hj
  rw [Addr.add_lit, Nat.zero_add, World.cell?_alloc_new]
  simpa using hj
theorem row_cells {W : World} {B n nc : Nat} {na : Option Addr} {cl : List N5} {i : Nat} {x : N5} (h : W.ownsRow B 50 5 (.slice na n nc) n (nRow cl)) (hn : cl.length = n) (hx : cl[i]? = some x) : ∃ g, na = some ⟨g, 0, none⟩ ∧ W.cell? ⟨g, i * 5, none⟩ = some (.slice x.fa x.n.facts.length x.fc) ∧ W.cell? ⟨g, i * 5 + 1, none⟩ = some (.slice x.ra x.n.ranks.length x.rc) ∧ W.cell? ⟨g, i * 5 + 4, none⟩ = some (.slice x.va x.n.vals.length x.vc) := by
  have hi := (List.getElem?_eq_some_iff.1 hx).1
  rcases h.2 with ⟨_, e⟩ | ⟨g, cap, cur, hv, _⟩
  · omega
  · cases hv
    have hcs := h.cells (g := g) rfl
    have key : ∀ j u, (nCells x)[j]? = some u → W.cell? ⟨g, i * 5 + j, none⟩ = some u := by
      intro j u hu
      have := hcs _ _ (nRow_at cl i x hx j u hu)
      rwa [Addr.add_lit, Nat.zero_add] at this
    exact ⟨g, rfl, by simpa using key 0 _ rfl, key 1 _ rfl, key 4 _ rfl⟩
/-- what the taking of nodes leaves -/
structure NPost (w W : World) (bb B lo hi Z n1 n4 n5 : Nat) (l5 wn rn : Value) : Prop where
  how : ∃ (l1a' : Option Addr) (l1c' : Nat) (l4a' : Option Addr) (l4c' : Nat) (l5a' : Option Addr) (l5c' : Nat) (s1' s4' s5' : List Value), s1'.length = 4 * n1 ∧ s4'.length = 4 * n4 ∧ s5'.length = 4 * n5 ∧ BN W bb B (.slice l1a' s1'.length l1c') (.slice l4a' s4'.length l4c') (.slice l5a' s5'.length l5c') wn rn s1' s4' s5' ∧ (∀ v ∈ s1', ∀ k, v.ownBlock = some k → k < hi ∨ Z ≤ k) ∧ (∀ v ∈ s4', ∀ k, v.ownBlock = some k → k < hi ∨ Z ≤ k) ∧ (∀ v ∈ s5', ∀ k, v.ownBlock = some k → k < hi ∨ Z ≤ k) ∧ NF B lo hi w W ∧ (∀ (k : Nat) (cur : Array Value), w.heap[k]? = some (Obj.cells cur 22 (0, 0)) → some k ≠ l5.ownBlock → W.heap[k]? = w.heap[k]?) ∧ ((Value.slice l5a' s5'.length l5c').ownBlock = l5.ownBlock ∨ ∃ q, (Value.slice l5a' s5'.length l5c').ownBlock = some q ∧ w.heap.size ≤ q)
set_option maxHeartbeats 4000000 in
set_option maxRecDepth 100000 in
theorem nodes_any (bb B lo hi Z q1 q4 q5 : Nat) (na l1a l4a l5a : Option Addr) (nc l1c l4c l5c : Nat) (cl : List N5) (wn rn : Value) (s1 s4 s5 : List Value) (w : World)
    (hK : BN w bb B (.slice l1a s1.length l1c) (.slice l4a s4.length l4c) (.slice l5a s5.length l5c) wn rn s1 s4 s5) (hT : NdS w lo hi na nc cl) (h1 : s1.length = 4 * q1) (h4 : s4.length = 4 * q4) (h5 : s5.length = 4 * q5)
    (hc1 : ∀ v ∈ s1, ∀ k, v.ownBlock = some k → k < lo ∨ Z ≤ k) (hc4 : ∀ v ∈ s4, ∀ k, v.ownBlock = some k → k < lo ∨ Z ≤ k) (hc5 : ∀ v ∈ s5, ∀ k, v.ownBlock = some k → k < lo ∨ Z ≤ k)
    (hbb : B ≤ bb) (hlo : B ≤ lo) (hlh : lo ≤ hi) (hhi : hi ≤ Z) (hz : Z ≤ w.heap.size) (hQ1 : q1 ≤ 10000) (hQ4 : q4 ≤ 10000) (hQ5 : q5 ≤ 10000) :
    Calls Try.prog 20 #[.pointer (some ⟨bb, 0, none⟩), .slice na cl.length nc] w fun e W => e = .returned (.tuple #[]) ∧ NPost w W bb B lo hi Z (q1 + 2 * cl.length) (q4 + cl.length) (q5 + 1) (.slice l5a s5.length l5c) wn rn := by
  obtain ⟨i1, hi1, hz0, hz1, hz2⟩ := info_parts infoNd
  have HI := (show Hid _ from And.intro hi1 (And.intro hz0 (And.intro hz1 hz2)))
  clear hi1 hz0 hz1 hz2
  obtain ⟨i2, hi2, hz0, hz1, hz2⟩ := info_parts infoNs
  have HI2 := (show Hid _ from And.intro hi2 (And.intro hz0 (And.intro hz1 hz2)))
  clear hi2 hz0 hz1 hz2
  have HW : Hid (((s5.length : Nat) : Int).tdiv 4 = (q5 : Int) ∧ wrap64 (q5 : Int) = q5 ∧ wrap64 (-7 - (q5 : Int)) = -7 - q5) := ⟨by rw [h5]; simp [Int.tdiv], wrapm q5 (by omega)⟩
  have hL5 : s5.length ≤ 100000 := by omega
  have hn60 := hT.len
  have H0 : Hid (NJ w w bb B lo hi Z (q1 + 2 * 0) (q4 + 0) (.slice l1a s1.length l1c) (.slice l4a s4.length l4c) (.slice l5a s5.length l5c) wn rn s1 s4 s5 na nc cl (TkN cl 0)) := (NJ.start hK hT h1 h4 hc1 hc4 hbb hlo hhi hz).congr (fun k => ⟨fun h => h.elim, fun ⟨j, _, hj, _⟩ => by omega⟩)
  clear hK hc1 hc4
  go_enter Try.func20, Try.ntmps20
  go_wp2_with fail
  go_loopw [4] (fun iv wr => ∃ (i : Nat) (l1a' l4a' : Option Addr) (l1c' l4c' : Nat) (s1' s4' : List Value), i ≤ cl.length ∧ iv = .int .i64 i ∧ Hid (NJ w wr bb B lo hi Z (q1 + 2 * i) (q4 + i) (.slice l1a' s1'.length l1c') (.slice l4a' s4'.length l4c') (.slice l5a s5.length l5c) wn rn s1' s4' s5 na nc cl (TkN cl i))) (fun iv _ => cl.length - (intOf iv).toNat)
  case atStart => exact ⟨0, l1a, l4a, l1c, l4c, s1, s4, by omega, rfl, H0.out⟩
  case round =>
    clear H0
    obtain ⟨i, l1a', l4a', l1c', l4c', s1', s4', hin, rfl, HJ⟩ := hrel
    by_cases hlt : i < cl.length
    · have hlti : (i : Int) < (cl.length : Int) := by omega
      obtain ⟨x, hx⟩ : ∃ x, cl[i]? = some x := ⟨_, List.getElem?_eq_getElem hlt⟩
      have hxm := List.mem_of_getElem? hx
      obtain ⟨hz1, hz2, hz3⟩ := hT.sz x hxm
      have HX : Hid (cl[i]? = some x ∧ x ∈ cl) := ⟨hx, hxm⟩
      clear hx hxm
      obtain ⟨g, rfl, c0, _, _⟩ := row_cells HJ.out.row rfl HX.out.1
      go_wp2_with fail
      have e1 := HJ.out.len1
      have e4 := HJ.out.len4
      refine (ints_any bb B (q1 + 2 * i) x.fa l1a' x.fc l1c' x.n.facts _ _ _ _ s1' wr HJ.out.bk.box HJ.out.bk.r1 (own_mono (HJ.out.fs x HX.out.2 (fun k hk => free_at hT.ap HX.out.1 (mem_f hk))) hlo) HJ.out.bk.base hz1 (by omega) e1).mono ?_
      rintro e W1 ⟨rfl, l1a2, l1c2, y1, y2, y3, hP⟩
      have hlen : (s1' ++ [x.fv, y1, y2, y3]).length = s1'.length + 4 := by simp
      rw [← hlen] at hP
      have HJ1 := HJ.out.f hT HX.out.2 (fun k hk => free_at hT.ap HX.out.1 (mem_f hk)) hP
      generalize s1' ++ [x.fv, y1, y2, y3] = s2 at HJ1 hlen
      have H1 : Hid (NJ w W1 bb B lo hi Z (q1 + 2 * i + 1) (q4 + i) (.slice l1a2 s2.length l1c2) (.slice l4a' s4'.length l4c') (.slice l5a s5.length l5c) wn rn s2 s4' s5 (some ⟨g, 0, none⟩) nc cl (fun k => TkN cl i k ∨ x.fv.ownBlock = some k)) := HJ1
      clear hP HJ1 c0
      obtain ⟨g', hg', _, c1, _⟩ := row_cells H1.out.row rfl HX.out.1
      cases hg'
      have hfree : Hid (∀ k, x.rv.ownBlock = some k → ¬ (TkN cl i k ∨ x.fv.ownBlock = some k)) := by
        intro k hk h
        rcases h with h | h
        · exact free_at hT.ap HX.out.1 (mem_r hk) h
        · rcases (hT.ok x HX.out.2).ap with h2 | h2
          · rw [h2] at h; cases h
          · exact h2 (h.trans hk.symm)
      go_wp2_with fail
      have e2 := H1.out.len1
      refine (ints_any bb B (q1 + 2 * i + 1) x.ra l1a2 x.rc l1c2 x.n.ranks _ _ _ _ s2 W1 H1.out.bk.box H1.out.bk.r1 (own_mono (H1.out.rs x HX.out.2 hfree.out) hlo) H1.out.bk.base hz2 (by omega) e2).mono ?_
      rintro e W2 ⟨rfl, l1a3, l1c3, y1, y2, y3, hP⟩
      have hlen : (s2 ++ [x.rv, y1, y2, y3]).length = s2.length + 4 := by simp
      rw [← hlen] at hP
      have HJ2 := H1.out.r hT HX.out.2 hfree.out hP
      generalize s2 ++ [x.rv, y1, y2, y3] = s3 at HJ2 hlen
      have H2 : Hid (NJ w W2 bb B lo hi Z (q1 + 2 * i + 1 + 1) (q4 + i) (.slice l1a3 s3.length l1c3) (.slice l4a' s4'.length l4c') (.slice l5a s5.length l5c) wn rn s3 s4' s5 (some ⟨g, 0, none⟩) nc cl (fun k => (TkN cl i k ∨ x.fv.ownBlock = some k) ∨ x.rv.ownBlock = some k)) := HJ2
      clear hP HJ2 c1 hfree
      obtain ⟨g', hg', _, _, c4⟩ := row_cells H2.out.row rfl HX.out.1
      cases hg'
      have hfree : Hid (∀ k, x.vv.ownBlock = some k → ¬ ((TkN cl i k ∨ x.fv.ownBlock = some k) ∨ x.rv.ownBlock = some k)) := by
        intro k hk h
        have hok := hT.ok x HX.out.2
        rcases h with (h | h) | h
        · exact free_at hT.ap HX.out.1 (mem_v hk) h
        · rcases own_ne_ty hok.v hok.f (by decide) with h2 | h2
          · rw [h2] at hk; cases hk
          · exact h2 (hk.trans h.symm)
        · rcases own_ne_ty hok.v hok.r (by decide) with h2 | h2
          · rw [h2] at hk; cases hk
          · exact h2 (hk.trans h.symm)
      go_wp2_with fail
      refine (vals_any bb B (q4 + i) x.va l4a' x.vc l4c' x.n.vals _ _ _ _ s4' W2 H2.out.bk.box H2.out.bk.r4 (own_mono (H2.out.vs x HX.out.2 hfree.out) hlo) H2.out.bk.base hz3 (by omega) e4).mono ?_
      rintro e W3 ⟨rfl, l4a2, l4c2, y1, y2, y3, hP⟩
      have hlen : (s4' ++ [x.vv, y1, y2, y3]).length = s4'.length + 4 := by simp
      rw [← hlen] at hP
      have HJ3 := H2.out.v hT HX.out.2 hfree.out hP
      generalize s4' ++ [x.vv, y1, y2, y3] = s6 at HJ3 hlen
      have H3 : Hid (NJ w W3 bb B lo hi Z (q1 + 2 * (i + 1)) (q4 + (i + 1)) (.slice l1a3 s3.length l1c3) (.slice l4a2 s6.length l4c2) (.slice l5a s5.length l5c) wn rn s3 s6 s5 (some ⟨g, 0, none⟩) nc cl (TkN cl (i + 1))) := by
        have := HJ3.congr (fun k => tk_next HX.out.1 k)
        rw [show q1 + 2 * i + 1 + 1 = q1 + 2 * (i + 1) by omega, show q4 + i + 1 = q4 + (i + 1) by omega] at this
        exact this
      clear hP HJ3 c4 hfree
      go_wp2_with fail
      exact ⟨⟨i + 1, l1a3, l4a2, l1c3, l4c2, s3, s6, by omega, by go_num, H3⟩, by simp [intOf]; omega⟩
    · have hlti : ¬ (i : Int) < (cl.length : Int) := by omega
      obtain rfl : i = cl.length := by omega
      rename World => w0
      obtain ⟨x1, x2⟩ := box_cells HJ.out.bk.box
      simp only [bookC] at x1
      have HAr : Hid (B ≤ bb ∧ B ≤ lo ∧ lo ≤ hi ∧ hi ≤ Z ∧ Z ≤ w.heap.size ∧ s5.length = 4 * q5 ∧ s5.length ≤ 100000 ∧ cl.length ≤ 60 ∧ q5 ≤ 10000) := ⟨hbb, hlo, hlh, hhi, hz, h5, hL5, hn60, hQ5⟩
      have HC5 : Hid (∀ v ∈ s5, ∀ k, v.ownBlock = some k → k < lo ∨ Z ≤ k) := hc5
      have HT : Hid (NdS w lo hi na nc cl) := hT
      clear hbb hlh hhi hz h5 hL5 hn60 hQ1 hQ4 hQ5 h1 h4 hc5 hT
      obtain ⟨hdv, hw1, hw2⟩ := HW.out
      have hlo' : Hid (B ≤ lo) := hlo
      clear hlo
      go_wp2_with fail
      clear hdv hw1 hw2
      have hlo := hlo'.out
      have hbox := HJ.out.bk.box
      have hr2 := HJ.out.bk.r5
      have hl := own_mono HJ.out.row hlo
      have hB := HJ.out.bk.base
      clear x1 x2
      have hbz0 : bb < w0.heap.size := (Array.getElem?_eq_some_iff.1 hbox).1
      obtain ⟨w1, hw1'⟩ : ∃ V, V = w0.alloc (.cells #[.slice none 0 0, .slice none 0 0, .bool false, .int .i64 (-7 - (q5 : Int)), .slice none 0 0] 50) := ⟨_, rfl⟩
      rw [← hw1']
      have hmb : w1.heap[w0.heap.size]? = some (.cells #[.slice none 0 0, .slice none 0 0, .bool false, .int .i64 (-7 - (q5 : Int)), .slice none 0 0] 50 (0, 0)) := by rw [hw1']; exact heap_alloc_new _ _
      have hbz : bb < w1.heap.size := by rw [hw1']; simp; omega
      have hB1 : B ≤ w1.heap.size := by rw [hw1']; simp; omega
      have hne0 : some w0.heap.size ≠ (Value.slice na cl.length nc).ownBlock := by
        intro e
        have := (hl.lt _ e.symm).2
        omega
      have hbox : w1.heap[bb]? = some (.cells (bookC (.slice l1a' s1'.length l1c') (.slice l4a' s4'.length l4c') (.slice l5a s5.length l5c) wn rn) 34 (0, 0)) := by rw [hw1', Below.heap_alloc _ _ _ hbz0]; exact hbox
      have hr2 : w1.ownsRow B 22 1 (.slice l5a s5.length l5c) s5.length s5 := by rw [hw1']; exact hr2.alloc _
      have hl : w1.ownsRow B 50 5 (.slice na cl.length nc) cl.length (nRow cl) := by rw [hw1']; exact hl.alloc _
      have HM : Hid (w1.heap[w0.heap.size]? = some (.cells #[.slice none 0 0, .slice none 0 0, .bool false, .int .i64 (-7 - (q5 : Int)), .slice none 0 0] 50 (0, 0)) ∧ some w0.heap.size ≠ (Value.slice na cl.length nc).ownBlock ∧ w1 = w0.alloc (.cells #[.slice none 0 0, .slice none 0 0, .bool false, .int .i64 (-7 - (q5 : Int)), .slice none 0 0] 50) ∧ w0.heap.size < w1.heap.size) := ⟨hmb, hne0, hw1', by rw [hw1']; simp⟩
      clear hmb hne0 hw1'
      have HB0 : Hid (some bb ≠ (Value.slice na cl.length nc).ownBlock ∧ some bb ≠ (Value.slice l5a s5.length l5c).ownBlock ∧ ((Value.slice l5a s5.length l5c).ownBlock = none ∨ (Value.slice l5a s5.length l5c).ownBlock ≠ (Value.slice na cl.length nc).ownBlock)) := ⟨own_ne_bx hl hbox (by decide), own_ne_bx hr2 hbox (by decide), own_ne_ty hr2 hl (by decide)⟩
      have HL0 := (show Hid _ from hl)
      have HX := (show Hid _ from And.intro hbox hr2)
      clear hl hbox hr2
      go_loopw [6] (fun i wr => ∃ k : Nat, i = .int .i64 k ∧ k ≤ cl.length ∧ Hid (wr.ownsRow B 50 5 (.slice na cl.length nc) cl.length (marks k [.slice none 0 0, .slice none 0 0, .bool false, .int .i64 (-7 - (q5 : Int)), .slice none 0 0] ++ (nRow cl).drop (k * 5))) ∧ Hid (w1.grownBy wr (Value.slice na cl.length nc).ownBlock)) (fun i _ => cl.length - (intOf i).toNat)
      case atStart => exact ⟨0, rfl, Nat.zero_le _, (by show World.ownsRow _ _ _ _ _ _ _; rw [marks_zero, List.nil_append, List.drop_zero]; exact HL0.out), ⟨rfl, rfl, rfl, Nat.le_refl _, fun _ _ _ => rfl⟩⟩
      case round =>
        obtain ⟨k, rfl, hk, HR, HG⟩ := hrel
        have hn60 : cl.length ≤ 60 := HT.out.len
        by_cases hlt : k < cl.length
        · have hki : (k : Int) < (cl.length : Int) := by omega
          obtain ⟨g, rfl⟩ : ∃ g, na = some ⟨g, 0, none⟩ := by
            rcases HR.out.2 with ⟨_, e⟩ | ⟨g, cap, cur, e, _⟩
            · omega
            · cases e; exact ⟨g, rfl⟩
          obtain ⟨cf, cx⟩ : (∀ o, wr.frozen? ⟨g, o, none⟩ = false) ∧ ∀ o, o < cl.length * 5 → ∃ u, wr.cell? ⟨g, o, none⟩ = some u := by
            rcases HR.out.2 with ⟨e, _⟩ | ⟨g', cap, cur, e, _, hg, hc, _, hs, _⟩
            · cases e
            · cases e
              refine ⟨fun o => by simp [World.frozen?, hg], fun o ho => ⟨cur[o]'(by have := Nat.mul_le_mul_right 5 hc; omega), by simp [World.cell?, hg]⟩⟩
          obtain ⟨u0, c0⟩ := cx (k * 5) (by omega)
          obtain ⟨u1, c1⟩ := cx (k * 5 + 1) (by omega)
          obtain ⟨u2, c2⟩ := cx (k * 5 + 2) (by omega)
          obtain ⟨u3, c3⟩ := cx (k * 5 + 3) (by omega)
          obtain ⟨u4, c4⟩ := cx (k * 5 + 4) (by omega)
          clear cx
          obtain ⟨m1, m2⟩ := box_cells ((HG.out.block _ HM.out.2.2.2 HM.out.2.1).trans HM.out.1)
          go_wp2_with fail
          have t0 := HR.out.stored (k * 5) (.slice none 0 0)
          have t1 := t0.1.stored (k * 5 + 1) (.slice none 0 0)
          have t2 := t1.1.stored (k * 5 + 2) (.bool false)
          have t3 := t2.1.stored (k * 5 + 3) (.int .i64 (-7 - (q5 : Int)))
          have t4 := t3.1.stored (k * 5 + 4) (.slice none 0 0)
          have s1 := t4.1
          have s2 := (((t0.2.trans t1.2).trans t2.2).trans t3.2).trans t4.2
          rw [set_marks5 k _ _ _ _ _ _ (by rw [nRow_len]; omega)] at s1
          refine ⟨⟨k + 1, rfl, by omega, s1, HG.out.trans s2⟩, by simp only [intOf]; omega⟩
        · obtain rfl : k = cl.length := by omega
          have hki : ¬ ((cl.length : Int) < (cl.length : Int)) := by omega
          have hfin := HR.out
          rw [List.drop_eq_nil_of_le (by rw [nRow_len]; omega), List.append_nil] at hfin
          have hap : AP w1 wr B 50 cl.length [.slice none 0 0, .slice none 0 0, .bool false, .int .i64 (-7 - (q5 : Int)), .slice none 0 0] (.slice na cl.length nc) (.slice na cl.length nc) [.slice na cl.length nc] := by
            refine ⟨hfin, ?_, Or.inl rfl, Fr.of_grown HG.out (fun _ _ h => h)⟩
            intro v hv
            simp only [List.mem_singleton] at hv
            subst hv
            exact ⟨MkAt.of_own hfin, Nat.le_refl _, Or.inl rfl⟩
          have HA : Hid (AP w1 wr B 50 cl.length [.slice none 0 0, .slice none 0 0, .bool false, .int .i64 (-7 - (q5 : Int)), .slice none 0 0] (.slice na cl.length nc) (.slice na cl.length nc) [.slice na cl.length nc]) := hap
          clear hfin HR hap HG HL0
          obtain ⟨b1, b2, b3, b4, b5, b6⟩ := sizes88 cl.length HT.out.len
          obtain ⟨b7, b8⟩ := sizes24 s5.length HAr.out.2.2.2.2.2.2.1
          obtain ⟨m1, m2⟩ := box_cells ((HA.out.fr.block _ HM.out.2.2.2 HM.out.2.1).trans HM.out.1)
          go_wp2_with (first
            | (at_builtin; have _ := HA3; refine wpList_append_own_at _ rfl _ _ 31 rfl B 22 i2 (.slice none 0 0) 1 24 Try.underlying31 HI2.out.1 HI2.out.2.1 HI2.out.2.2.1 HI2.out.2.2.2 rfl (by decide) (.slice l5a s5.length l5c) s5.length s5 rfl (HX3.out.2.alloc _) ⟨W3.heap.size, 0, none⟩ 4 4 [.slice na cl.length nc, .slice xa (cl.length + 1) xc, .slice ya (cl.length + 1 + 1) yc, .slice za (cl.length + 1 + 1 + 1) zc] rfl rfl (cell_four _ _ _ _ _ _) (by intro u hu; simp at hu; rcases hu with rfl | rfl | rfl | rfl <;> rfl) b7 b8 (HA3.out.base hB1 _) ?_; intro l2' W5 o5 g5 _ n5; obtain ⟨l5a', l5c', rfl⟩ := sl_of_own o5; have hga := (World.grownBy_alloc W3 (.cells #[.slice na cl.length nc, .slice xa (cl.length + 1) xc, .slice ya (cl.length + 1 + 1) yc, .slice za (cl.length + 1 + 1 + 1) zc] 22) _).trans g5; have hz3 := HA3.out.fr.size; clear x1 x2; obtain ⟨x1, x2⟩ := box_cells ((hga.block bb (by omega) HB0.out.2.1).trans HX3.out.1); simp only [bookC] at x1; have H5 := (show Hid _ from And.intro hga (And.intro o5 n5)); clear hga o5 n5 g5)
            | (at_builtin; have _ := HA2; refine wpList_append_keep _ rfl _ _ 22 rfl B 50 i1 (.agg #[.slice none 0 0, .slice none 0 0, .bool false, .int .i64 0, .slice none 0 0]) 5 88 Try.underlying22 HI.out.1 HI.out.2.1 HI.out.2.2.1 HI.out.2.2.2 rfl (by decide) (.slice ya (cl.length + 1 + 1) yc) (cl.length + 1 + 1) (marks (cl.length + 1 + 1) [.slice none 0 0, .slice none 0 0, .bool false, .int .i64 (-7 - (q5 : Int)), .slice none 0 0]) rfl (HA2.out.row.alloc _) ⟨W2.heap.size, 0, none⟩ 1 1 [.slice none 0 0, .slice none 0 0, .bool false, .int .i64 (-7 - (q5 : Int)), .slice none 0 0] rfl rfl (news5 _ _ _ _ _ _) (one5 q5) b5 b6 (HA2.out.base hB1 _) ?_; intro z W3 o1 k1 g1 n1; have hap1 := HA2.out.step o1 k1 g1 n1; obtain ⟨za, zc, rfl⟩ := sl_of_own o1; have HA3 := (show Hid _ from hap1); clear m1 m2; obtain ⟨m1, m2⟩ := box_cells ((hap1.fr.block _ HM.out.2.2.2 HM.out.2.1).trans HM.out.1); have HX3 : Hid (W3.heap[bb]? = some (.cells (bookC (.slice l1a' s1'.length l1c') (.slice l4a' s4'.length l4c') (.slice l5a s5.length l5c) wn rn) 34 (0, 0)) ∧ W3.ownsRow B 22 1 (.slice l5a s5.length l5c) s5.length s5) := (by refine ⟨(hap1.fr.block bb hbz HB0.out.1).trans HX.out.1, hap1.fr.own HX.out.2 (fun k hk e => ?_)⟩; rcases HB0.out.2.2 with h | h; (rw [hk] at h; cases h); exact h (hk.trans e)); clear o1 k1 g1 n1 hap1; obtain ⟨x1, x2⟩ := box_cells HX3.out.1; simp only [bookC] at x1)
            | (at_builtin; have _ := HA1; refine wpList_append_keep _ rfl _ _ 22 rfl B 50 i1 (.agg #[.slice none 0 0, .slice none 0 0, .bool false, .int .i64 0, .slice none 0 0]) 5 88 Try.underlying22 HI.out.1 HI.out.2.1 HI.out.2.2.1 HI.out.2.2.2 rfl (by decide) (.slice xa (cl.length + 1) xc) (cl.length + 1) (marks (cl.length + 1) [.slice none 0 0, .slice none 0 0, .bool false, .int .i64 (-7 - (q5 : Int)), .slice none 0 0]) rfl (HA1.out.row.alloc _) ⟨W1.heap.size, 0, none⟩ 1 1 [.slice none 0 0, .slice none 0 0, .bool false, .int .i64 (-7 - (q5 : Int)), .slice none 0 0] rfl rfl (news5 _ _ _ _ _ _) (one5 q5) b3 b4 (HA1.out.base hB1 _) ?_; intro y W2 o1 k1 g1 n1; have hap1 := HA1.out.step o1 k1 g1 n1; obtain ⟨ya, yc, rfl⟩ := sl_of_own o1; have HA2 := (show Hid _ from hap1); clear m1 m2; obtain ⟨m1, m2⟩ := box_cells ((hap1.fr.block _ HM.out.2.2.2 HM.out.2.1).trans HM.out.1); clear o1 k1 g1 n1 hap1)
            | (at_builtin; refine wpList_append_keep _ rfl _ _ 22 rfl B 50 i1 (.agg #[.slice none 0 0, .slice none 0 0, .bool false, .int .i64 0, .slice none 0 0]) 5 88 Try.underlying22 HI.out.1 HI.out.2.1 HI.out.2.2.1 HI.out.2.2.2 rfl (by decide) (.slice na cl.length nc) cl.length (marks cl.length [.slice none 0 0, .slice none 0 0, .bool false, .int .i64 (-7 - (q5 : Int)), .slice none 0 0]) rfl (HA.out.row.alloc _) ⟨wr.heap.size, 0, none⟩ 1 1 [.slice none 0 0, .slice none 0 0, .bool false, .int .i64 (-7 - (q5 : Int)), .slice none 0 0] rfl rfl (news5 _ _ _ _ _ _) (one5 q5) b1 b2 (HA.out.base hB1 _) ?_; intro x W1 o1 k1 g1 n1; have hap1 := HA.out.step o1 k1 g1 n1; obtain ⟨xa, xc, rfl⟩ := sl_of_own o1; have HA1 := (show Hid _ from hap1); clear m1 m2; obtain ⟨m1, m2⟩ := box_cells ((hap1.fr.block _ HM.out.2.2.2 HM.out.2.1).trans HM.out.1); clear o1 k1 g1 n1 hap1))
          go_end0
          obtain ⟨hbb, _, hlh, hhi, hz, h5, hL5, _, hQ5⟩ := HAr.out
          have hT := HT.out
          have hc5 := HC5.out
          have hp := (put_done (off := 4) HA3.out HX3.out.1 HX3.out.2 HB0.out.2.1 hbz H5.out.1 H5.out.2.1 H5.out.2.2 (by decide) (by decide) (by decide)).pre HM.out.2.2.1
          have hlen5 : (s5 ++ [Value.slice na cl.length nc, .slice xa (cl.length + 1) xc, .slice ya (cl.length + 1 + 1) yc, .slice za (cl.length + 1 + 1 + 1) zc]).length = s5.length + 4 := by simp
          have hd5 : ∀ v ∈ s5, ∀ k, v.ownBlock = some k → some k ≠ (Value.slice na cl.length nc).ownBlock := by
            intro v hv k hk e
            have g1 := (HJ.out.row.lt k e.symm).1
            have g2 := hT.rhi k e.symm
            have := hc5 v hv k hk
            omega
          have hBN := HJ.out.bk.put5 h5 (own_mono HJ.out.row hlo) hp hd5
          have hz0 := HJ.out.z
          have hzf := hp.fr.size
          refine ⟨rfl, ⟨l1a', l1c', l4a', l4c', l5a', l5c', s1', s4', s5 ++ [.slice na cl.length nc, .slice xa (cl.length + 1) xc, .slice ya (cl.length + 1 + 1) yc, .slice za (cl.length + 1 + 1 + 1) zc], HJ.out.len1, HJ.out.len4, by rw [hlen5, h5]; omega, by rw [hlen5]; exact hBN, ?_, ?_, ?_, HJ.out.nf.trans (hp.nf5 HJ.out.bk hbb HJ.out.row hlo hT.rhi), ?_, ?_⟩⟩
          · intro v hv k hk
            rcases HJ.out.v1 v hv k hk with h | ⟨j, x, hj, hx, hkb⟩
            · omega
            · exact Or.inl (hT.bhi x (List.mem_of_getElem? hx) k hkb)
          · intro v hv k hk
            rcases HJ.out.v4 v hv k hk with h | ⟨j, x, hj, hx, hkb⟩
            · omega
            · exact Or.inl (hT.bhi x (List.mem_of_getElem? hx) k hkb)
          · intro v hv k hk
            rcases List.mem_append.1 hv with hv | hv
            · have := hc5 v hv k hk
              omega
            · rcases (hp.mks v hv).2 with e | ⟨q, e, hq⟩
              · exact Or.inl (hT.rhi k (e.symm.trans hk))
              · rw [e] at hk
                cases hk
                exact Or.inr (by omega)
          · intro k cur hk hne
            have hk0 := (HJ.out.kn k cur hk).trans hk
            refine (hp.fr.block k (Array.getElem?_eq_some_iff.1 hk0).1 ⟨?_, own_ty HJ.out.row hk0 (by decide), hne⟩).trans (HJ.out.kn k cur hk)
            intro e
            subst e
            rw [HJ.out.bk.box] at hk0
            simp at hk0
          · rw [hlen5]
            have hz9 := HJ.out.nf.below.size
            rcases hp.new with e | ⟨q, e, hq⟩
            · exact Or.inl e
            · exact Or.inr ⟨q, e, by omega⟩
end Go.Proofs.Ytmipbiligijcpaa
