/- The law's lent: the walk. -/
import Derived.Test.YtmipbiligijcpaaY3
import Derived.Deep.Cut
namespace Go.Proofs.Ytmipbiligijcpaa
set_option linter.unusedVariables false
set_option linter.unusedSimpArgs false
open Go.RowKit Go.Proofs Go.Maps

structure N5 where
  fa : Option Addr
  fc : Nat
  ra : Option Addr
  rc : Nat
  va : Option Addr
  vc : Nat
  n : Nd
def nCells (c : N5) : List Value := [.slice c.fa c.n.facts.length c.fc, .slice c.ra c.n.ranks.length c.rc, .bool c.n.reached, .int .i64 c.n.rank, .slice c.va c.n.vals.length c.vc]
def nRow (cl : List N5) : List Value := cl.flatMap nCells
/-- a node whose lists lie in memory of their own, from block B on -/
structure NOwn (w : World) (B : Nat) (c : N5) : Prop where
  f : w.ownsRow B 3 1 (.slice c.fa c.n.facts.length c.fc) c.n.facts.length (c.n.facts.map (Value.int .i64))
  r : w.ownsRow B 3 1 (.slice c.ra c.n.ranks.length c.rc) c.n.ranks.length (c.n.ranks.map (Value.int .i64))
  v : w.ownsRow B 62 6 (.slice c.va c.n.vals.length c.vc) c.n.vals.length (vRow c.n.vals)
  fn : c.fa = none → c.fc = 0
  rn : c.ra = none → c.rc = 0
  vn : c.va = none → c.vc = 0
theorem NOwn.at {w : World} {B : Nat} {c : N5} (h : NOwn w B c) : NdAt w c.fa c.ra c.va c.fc c.rc c.vc c.n := ⟨ints_own h.f, ints_own h.r, vals_own h.v, h.fn, h.rn, h.vn⟩
theorem row_ne {w : World} {B e size n : Nat} {v : Value} {xs : List Value} {row : Option Nat} (h : w.ownsRow B e size v n xs) (hrow : ∀ k, row = some k → ∃ cur f, w.heap[k]? = some (.cells cur 50 f)) (he : e ≠ 50) : v.ownBlock = none ∨ v.ownBlock ≠ row := by
  cases hv : v.ownBlock with
  | none => exact Or.inl rfl
  | some k =>
    refine Or.inr (fun e0 => ?_)
    obtain ⟨c1, f1, a⟩ := own_cells h k hv
    obtain ⟨c2, f2, b⟩ := hrow k e0.symm
    rw [a] at b
    simp at b
    exact he b.2.1
theorem NOwn.kept {w w' : World} {B : Nat} {c : N5} {row : Option Nat} (h : NOwn w B c) (hg : w.grownBy w' row) (hrow : ∀ k, row = some k → ∃ cur f, w.heap[k]? = some (.cells cur 50 f)) : NOwn w' B c :=
  ⟨h.f.kept hg (row_ne h.f hrow (by decide)), h.r.kept hg (row_ne h.r hrow (by decide)), h.v.kept hg (row_ne h.v hrow (by decide)), h.fn, h.rn, h.vn⟩
theorem NOwn.below {w w' : World} {B : Nat} {c : N5} (h : NOwn w B c) (hb : Below w.heap.size w w') : NOwn w' B c :=
  ⟨own_below h.f hb, own_below h.r hb, own_below h.v hb, h.fn, h.rn, h.vn⟩
theorem NOwn.mono {w : World} {B B' : Nat} {c : N5} (h : NOwn w B c) (hb : B' ≤ B) : NOwn w B' c := ⟨own_mono h.f hb, own_mono h.r hb, own_mono h.v hb, h.fn, h.rn, h.vn⟩
theorem nRow_len : ∀ (cl : List N5), (nRow cl).length = cl.length * 5
  | [] => rfl
  | c :: r => by
    have := nRow_len r
    simp only [nRow, List.flatMap_cons, List.length_append, List.length_cons] at this ⊢
    simp [nCells] at this ⊢
    omega
theorem nRow_at : ∀ (cl : List N5) (j : Nat) (c : N5), cl[j]? = some c → ∀ i x, (nCells c)[i]? = some x → (nRow cl)[j * 5 + i]? = some x
  | [], j, c, h, i, x, hx => by simp at h
  | a :: r, 0, c, h, i, x, hx => by
    simp at h
    subst h
    have hi := (List.getElem?_eq_some_iff.1 hx).1
    simp only [nRow, List.flatMap_cons, Nat.zero_mul, Nat.zero_add]
    rw [List.getElem?_append_left hi]
    exact hx
  | a :: r, j + 1, c, h, i, x, hx => by
    have := nRow_at r j c (by simpa using h) i x hx
    simp only [nRow, List.flatMap_cons] at this ⊢
    rw [List.getElem?_append_right (by simp [nCells]; omega)]
    rw [← this]
    congr 1
    simp [nCells]
    omega
theorem nodes_own {w : World} {B B2 : Nat} {a : Option Addr} {k n : Nat} {cl : List N5} (h : w.ownsRow B 50 5 (.slice a n k) cl.length (nRow cl)) (ho : ∀ c ∈ cl, NOwn w B2 c) : NodesAt w a (cl.map N5.n) := by
  intro j nd hj
  simp only [List.getElem?_map, Option.map_eq_some_iff] at hj
  obtain ⟨c, hc, rfl⟩ := hj
  have hjl := (List.getElem?_eq_some_iff.1 hc).1
  rcases h.2 with ⟨_, e⟩ | ⟨g, cap, cur, hv, _⟩
  · omega
  · simp at hv
    obtain ⟨rfl, rfl, rfl⟩ := hv
    have hcs := h.cells (g := g) rfl
    have key : ∀ i x, (nCells c)[i]? = some x → w.cell? ⟨g, 0 + (j * 5 + i), none⟩ = some x := by
      intro i x hx
      have := hcs _ _ (nRow_at cl j c hc i x hx)
      rwa [Addr.add_lit] at this
    refine ⟨g, 0, c.fa, c.ra, c.va, c.fc, c.rc, c.vc, rfl, ?_, ?_, ?_, ?_, ?_, (ho c (List.mem_of_getElem? hc)).at⟩
    · simpa using key 0 _ rfl
    · simpa [Nat.add_assoc] using key 1 _ rfl
    · simpa [Nat.add_assoc] using key 2 _ rfl
    · simpa [Nat.add_assoc] using key 3 _ rfl
    · simpa [Nat.add_assoc] using key 4 _ rfl
theorem box_set {w : World} {b o : Nat} {cs : Array Value} {t : TypeId} (h : w.heap[b]? = some (.cells cs t (0, 0))) (v : Value) : (w.setCell ⟨b, o, none⟩ v).heap[b]? = some (.cells (cs.setIfInBounds o v) t (0, 0)) := by
  simp [World.setCell, Array.getElem?_modify, h]
theorem lent_step {wr W W' : World} {bx o : Nat} {cs : Array Value} (hb : Below wr.heap.size wr W) (hbx : W.heap[bx]? = some (.cells cs 50 (0, 0))) (hge : wr.heap.size ≤ bx) (hg : W.grownBy W' none) (v : Value) :
    Below wr.heap.size wr (W'.setCell ⟨bx, o, none⟩ v) ∧ (W'.setCell ⟨bx, o, none⟩ v).heap[bx]? = some (.cells (cs.setIfInBounds o v) 50 (0, 0)) ∧ (∀ (B e size : Nat) (u : Value) (n : Nat) (xs : List Value), e ≠ 50 → W'.ownsRow B e size u n xs → (W'.setCell ⟨bx, o, none⟩ v).ownsRow B e size u n xs) ∧ (∀ (B e size : Nat) (u : Value) (n : Nat) (xs : List Value), e ≠ 50 → W.ownsRow B e size u n xs → (W'.setCell ⟨bx, o, none⟩ v).ownsRow B e size u n xs) := by
  have hlt := (Array.getElem?_eq_some_iff.1 hbx).1
  have h1 : W'.heap[bx]? = some (.cells cs 50 (0, 0)) := (hg.block bx hlt (by simp)).trans hbx
  have k1 : ∀ (B e size : Nat) (u : Value) (n : Nat) (xs : List Value), e ≠ 50 → W'.ownsRow B e size u n xs → (W'.setCell ⟨bx, o, none⟩ v).ownsRow B e size u n xs := by
    intro B e size u n xs he ho
    exact ho.kept (grown_self W' bx o v) (row_ne ho (fun k hk => by cases hk; exact ⟨_, _, h1⟩) he)
  refine ⟨((hb.grown hg hb.size (fun k hk => by cases hk))).setCell (p := ⟨bx, o, none⟩) hge _, box_set h1 v, k1, fun B e size u n xs he ho => k1 B e size u n xs he (ho.kept hg (by cases u.ownBlock <;> simp))⟩
/-- what lent answers -/
def Lent (w W : World) (ns : List Nd) (oa : Option Addr) (oc : Nat) : Prop := ∃ cl : List N5, cl.map N5.n = ns ∧ W.ownsRow w.heap.size 50 5 (.slice oa ns.length oc) cl.length (nRow cl) ∧ (∀ c ∈ cl, NOwn W w.heap.size c) ∧ Below w.heap.size w W
set_option maxHeartbeats 2000000 in
set_option maxRecDepth 100000 in
theorem lent_any (na : Option Addr) (nc : Nat) (ns : List Nd) (w : World) (h : NodesAt w na ns) (hn : ∀ n ∈ ns, NdIn n) (hl : ns.length * 88 ≤ 140737488355328) :
    Calls Try.prog 13 #[.slice na ns.length nc] w fun e W => ∃ oa oc, e = .returned (.slice oa ns.length oc) ∧ Lent w W ns oa oc := by
  have HH := (show Hid _ from And.intro h hn)
  clear h hn
  go_enter Try.func13, Try.ntmps13
  go_wp2_with fail
  go_loopw [3, 4] (fun ov i wr => ∃ (cl : List N5) (oa : Option Addr) (oc : Nat), cl.length ≤ ns.length ∧ i = .int .i64 cl.length ∧ ov = .slice oa cl.length oc ∧ Hid (cl.map N5.n = ns.take cl.length) ∧ Hid (wr.ownsRow w.heap.size 50 5 (.slice oa cl.length oc) cl.length (nRow cl)) ∧ Hid (∀ c ∈ cl, NOwn wr w.heap.size c) ∧ Hid (Below w.heap.size w wr)) (fun _ i _ => ns.length - (intOf i).toNat)
  case atStart => exact ⟨[], none, 0, Nat.zero_le _, rfl, rfl, by show _ = _; simp, World.ownsRow_nil _ _ _ _, (fun c hc => by cases hc), Below.refl _ _⟩
  case round =>
    obtain ⟨cl, oa, oc, hk, rfl, rfl, HM, HR, HO, HK⟩ := hrel
    by_cases hlt : cl.length < ns.length
    · have hlti : (cl.length : Int) < (ns.length : Int) := by omega
      obtain ⟨n, hx⟩ : ∃ n, ns[cl.length]? = some n := ⟨_, List.getElem?_eq_getElem hlt⟩
      obtain ⟨b1, o1, fa, ra, va, fc, rc, vc, rfl, c0, c1, c2, c3, c4, hat⟩ := (HH.out.1.below HK.out) _ n hx
      have hni := HH.out.2 n (List.mem_of_getElem? hx)
      have HX := (show Hid _ from And.intro hx (And.intro hat hni))
      have HC := (show Hid _ from And.intro c0 (And.intro c1 c4))
      clear hx hat hni
      go_upto_region 6 with (fail)
      generalize hV : wr.alloc (.cells #[.slice fa n.facts.length fc, .slice ra n.ranks.length rc, .bool n.reached, .int .i64 n.rank, .slice va n.vals.length vc] 50) = V5
      have HV5 : Hid (Below wr.heap.size wr V5 ∧ V5.heap[wr.heap.size]? = some (.cells #[.slice fa n.facts.length fc, .slice ra n.ranks.length rc, .bool n.reached, .int .i64 n.rank, .slice va n.vals.length vc] 50 (0, 0))) := by
        subst hV
        exact ⟨below1 _ _, heap_alloc_new wr _⟩
      have hwk := HK.out.size
      clear hV c0 c1 c2 c3 c4
      have c0 := cell_stays HC.out.1 HV5.out.1
      obtain ⟨x1, x2⟩ := box_cells HV5.out.2
      go_upto_region 7 with (at_builtin; refine wpAppJ rfl _ _ rfl w.heap.size rfl fa fc n.facts rfl HX.out.2.1.fnil (HX.out.2.1.facts.below HV5.out.1) HX.out.2.2.fsz (by have := HV5.out.1.size; omega) ?_; clear x1 x2 c0; intro fa2 fc2 W6 o6 g6 hn6; obtain ⟨x1, x2⟩ := box_cells ((g6.block _ (Array.getElem?_eq_some_iff.1 HV5.out.2).1 (by simp)).trans HV5.out.2); have H6 := (show Hid _ from And.intro o6 (And.intro g6 hn6)); clear o6 g6 hn6)
      have hs6 := lent_step (o := 0) HV5.out.1 HV5.out.2 (Nat.le_refl _) H6.out.2.1 (.slice fa2 n.facts.length fc2)
      generalize hV : W6.setCell ⟨wr.heap.size, 0, none⟩ (.slice fa2 n.facts.length fc2) = V6 at hs6
      have HV6 : Hid (Below wr.heap.size wr V6 ∧ V6.heap[wr.heap.size]? = some (.cells #[.slice fa2 n.facts.length fc2, .slice ra n.ranks.length rc, .bool n.reached, .int .i64 n.rank, .slice va n.vals.length vc] 50 (0, 0)) ∧ V6.ownsRow w.heap.size 3 1 (.slice fa2 n.facts.length fc2) n.facts.length (n.facts.map (Value.int .i64)) ∧ (fa2 = none → fc2 = 0)) := ⟨hs6.1, hs6.2.1, hs6.2.2.1 _ _ _ _ _ _ (by decide) H6.out.1, H6.out.2.2⟩
      clear hV hs6 H6 HV5 x1 x2
      have c1 := cell_stays HC.out.2.1 HV6.out.1
      obtain ⟨x1, x2⟩ := box_cells HV6.out.2.1
      go_upto_region 8 with (at_builtin; refine wpAppJ rfl _ _ rfl w.heap.size rfl ra rc n.ranks rfl HX.out.2.1.rnil (HX.out.2.1.ranks.below HV6.out.1) HX.out.2.2.rsz (by have := HV6.out.1.size; omega) ?_; clear x1 x2 c1; intro ra2 rc2 W7 o7 g7 hn7; obtain ⟨x1, x2⟩ := box_cells ((g7.block _ (Array.getElem?_eq_some_iff.1 HV6.out.2.1).1 (by simp)).trans HV6.out.2.1); have H7 := (show Hid _ from And.intro o7 (And.intro g7 hn7)); clear o7 g7 hn7)
      have hs7 := lent_step (o := 1) HV6.out.1 HV6.out.2.1 (Nat.le_refl _) H7.out.2.1 (.slice ra2 n.ranks.length rc2)
      generalize hV : W7.setCell ⟨wr.heap.size, 1, none⟩ (.slice ra2 n.ranks.length rc2) = V7 at hs7
      have HV7 : Hid (Below wr.heap.size wr V7 ∧ V7.heap[wr.heap.size]? = some (.cells #[.slice fa2 n.facts.length fc2, .slice ra2 n.ranks.length rc2, .bool n.reached, .int .i64 n.rank, .slice va n.vals.length vc] 50 (0, 0)) ∧ (V7.ownsRow w.heap.size 3 1 (.slice fa2 n.facts.length fc2) n.facts.length (n.facts.map (Value.int .i64)) ∧ (fa2 = none → fc2 = 0)) ∧ V7.ownsRow w.heap.size 3 1 (.slice ra2 n.ranks.length rc2) n.ranks.length (n.ranks.map (Value.int .i64)) ∧ (ra2 = none → rc2 = 0)) := ⟨hs7.1, hs7.2.1, ⟨hs7.2.2.2 _ _ _ _ _ _ (by decide) HV6.out.2.2.1, HV6.out.2.2.2⟩, hs7.2.2.1 _ _ _ _ _ _ (by decide) H7.out.1, H7.out.2.2⟩
      clear hV hs7 H7 HV6 x1 x2
      have c4 := cell_stays HC.out.2.2 HV7.out.1
      obtain ⟨x1, x2⟩ := box_cells HV7.out.2.1
      go_upto_region 9 with (at_builtin; refine wpAppV rfl _ _ rfl w.heap.size rfl va vc n.vals rfl HX.out.2.1.vnil (HX.out.2.1.vals.below HV7.out.1) HX.out.2.2.vsz (by have := HV7.out.1.size; omega) ?_; clear x1 x2 c4; intro va2 vc2 W8 o8 g8 hn8; obtain ⟨x1, x2⟩ := box_cells ((g8.block _ (Array.getElem?_eq_some_iff.1 HV7.out.2.1).1 (by simp)).trans HV7.out.2.1); have H8 := (show Hid _ from And.intro o8 (And.intro g8 hn8)); clear o8 g8 hn8)
      have hs8 := lent_step (o := 4) HV7.out.1 HV7.out.2.1 (Nat.le_refl _) H8.out.2.1 (.slice va2 n.vals.length vc2)
      generalize hV : W8.setCell ⟨wr.heap.size, 4, none⟩ (.slice va2 n.vals.length vc2) = V8 at hs8
      have HV8 : Hid (Below wr.heap.size wr V8 ∧ V8.heap[wr.heap.size]? = some (.cells #[.slice fa2 n.facts.length fc2, .slice ra2 n.ranks.length rc2, .bool n.reached, .int .i64 n.rank, .slice va2 n.vals.length vc2] 50 (0, 0)) ∧ NOwn V8 w.heap.size ⟨fa2, fc2, ra2, rc2, va2, vc2, n⟩) := ⟨hs8.1, hs8.2.1, hs8.2.2.2 _ _ _ _ _ _ (by decide) HV7.out.2.2.1.1, hs8.2.2.2 _ _ _ _ _ _ (by decide) HV7.out.2.2.2.1, hs8.2.2.1 _ _ _ _ _ _ (by decide) H8.out.1, HV7.out.2.2.1.2, HV7.out.2.2.2.2, H8.out.2.2⟩
      clear hV hs8 H8 HV7 x1 x2
      obtain ⟨x1, x2⟩ := box_cells HV8.out.2.1
      obtain ⟨i0, hi, hz0, hz1, hz2⟩ := info_parts infoNd
      have hown := (own_below HR.out HV8.out.1).alloc (.cells #[.slice fa2 n.facts.length fc2, .slice ra2 n.ranks.length rc2, .bool n.reached, .int .i64 n.rank, .slice va2 n.vals.length vc2] 50)
      have hB9 : w.heap.size ≤ (V8.alloc (.cells #[.slice fa2 n.facts.length fc2, .slice ra2 n.ranks.length rc2, .bool n.reached, .int .i64 n.rank, .slice va2 n.vals.length vc2] 50)).heap.size := by have := HV8.out.1.size; simp; omega
      have hnews : ∀ (j : Nat) (u : Value), (nCells ⟨fa2, fc2, ra2, rc2, va2, vc2, n⟩)[j]? = some u → (V8.alloc (.cells #[.slice fa2 n.facts.length fc2, .slice ra2 n.ranks.length rc2, .bool n.reached, .int .i64 n.rank, .slice va2 n.vals.length vc2] 50)).cell? ((⟨V8.heap.size, 0, none⟩ : Addr).add j) = some u := by
        intro j u hj
        rw [Addr.add_lit, Nat.zero_add, World.cell?_alloc_new]
        simpa [nCells] using hj
      have HI := (show Hid _ from And.intro (And.intro hi (And.intro hz0 (And.intro hz1 hz2))) (And.intro hown (And.intro hnews hB9)))
      clear hi hz0 hz1 hz2 hown hnews hB9
      go_wp2_with (at_builtin; refine wpList_append_own _ rfl _ _ 22 rfl w.heap.size 50 i0 _ 5 88 Try.underlying22 HI.out.1.1 HI.out.1.2.1 HI.out.1.2.2.1 HI.out.1.2.2.2 rfl (by decide) (.slice oa cl.length oc) cl.length (nRow cl) rfl HI.out.2.1 ⟨V8.heap.size, 0, none⟩ 1 1 (nCells ⟨fa2, fc2, ra2, rc2, va2, vc2, n⟩) rfl rfl HI.out.2.2.1 (by intro u hu; simp [nCells] at hu; rcases hu with rfl | rfl | rfl | rfl | rfl <;> rfl) (by simp only [maxLen]; omega) (by omega) HI.out.2.2.2 ?_; intro v9 W9 o9 g9 _; obtain ⟨a9, c9, rfl⟩ := sl_of_own o9; have H9 := (show Hid _ from And.intro o9 g9); clear o9 g9)
      have hrow : ∀ k, (Value.slice oa cl.length oc).ownBlock = some k → ∃ cur f, (V8.alloc (.cells #[.slice fa2 n.facts.length fc2, .slice ra2 n.ranks.length rc2, .bool n.reached, .int .i64 n.rank, .slice va2 n.vals.length vc2] 50)).heap[k]? = some (.cells cur 50 f) := own_cells HI.out.2.1
      have hb8 := below_trans HV8.out.1 (below1 V8 (.cells #[.slice fa2 n.facts.length fc2, .slice ra2 n.ranks.length rc2, .bool n.reached, .int .i64 n.rank, .slice va2 n.vals.length vc2] 50))
      refine ⟨⟨cl ++ [⟨fa2, fc2, ra2, rc2, va2, vc2, n⟩], a9, c9, by simp; omega, by simp, by simp, ?_, ?_, ?_, ?_⟩, by simp [intOf]; omega⟩
      · show _ = _
        rw [List.map_append, HM.out, List.length_append, List.length_singleton, List.take_succ_eq_append_getElem hlt]
        have := (List.getElem?_eq_some_iff.1 HX.out.1).2
        simp [this]
      · show World.ownsRow _ _ _ _ _ _ _
        have := H9.out.1
        rw [List.length_append, List.length_singleton]
        simpa [nRow] using this
      · intro c hc
        rcases List.mem_append.1 hc with h | h
        · exact ((HO.out c h).below hb8).kept H9.out.2 hrow
        · simp at h
          subst h
          exact (HV8.out.2.2.below (below1 _ _)).kept H9.out.2 hrow
      · exact ((HK.out.trans (hb8.mono hwk))).grown H9.out.2 (by have := hb8.size; omega) (fun k hk => (HI.out.2.1.lt k hk).1)
    · have hlti : ¬ (cl.length : Int) < (ns.length : Int) := by omega
      go_wp2_with fail
      go_ret
      have e : cl.length = ns.length := by omega
      refine ⟨oa, oc, by rw [e]; rfl, cl, ?_, ?_, HO.out, HK.out⟩
      · rw [HM.out, e, List.take_length]
      · rw [← e]; exact HR.out
end Go.Proofs.Ytmipbiligijcpaa
