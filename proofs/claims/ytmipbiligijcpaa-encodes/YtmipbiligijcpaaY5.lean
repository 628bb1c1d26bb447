/- One Encode, held against the document's, with the caller's list changed in between. -/
import Derived.Test.YtmipbiligijcpaaY4
import Derived.Test.YtmipbiligijcpaaY2
import Derived.Test.YtmipbiligijcpaaJ8
namespace Go.Proofs.Ytmipbiligijcpaa
set_option linter.unusedVariables false
set_option linter.unusedSimpArgs false
open Go.RowKit Go.Proofs Go.Maps

theorem Lent.from {w X W : World} {ns : List Nd} {oa : Option Addr} {oc : Nat} (h : Lent X W ns oa oc) (hb : Below w.heap.size w X) : Lent w W ns oa oc := by
  obtain ⟨cl, h1, h2, h3, h4⟩ := h
  exact ⟨cl, h1, own_mono h2 hb.size, fun c hc => (h3 c hc).mono hb.size, below_trans hb h4⟩
theorem Lent.below {w W : World} {ns : List Nd} {oa : Option Addr} {oc : Nat} (h : Lent w W ns oa oc) : Below w.heap.size w W := by
  obtain ⟨cl, h1, h2, h3, h4⟩ := h
  exact h4
theorem Lent.at {w W : World} {ns : List Nd} {oa : Option Addr} {oc : Nat} (h : Lent w W ns oa oc) : NodesAt W oa ns := by
  obtain ⟨cl, h1, h2, h3, h4⟩ := h
  have := nodes_own h2 h3
  rwa [h1] at this
theorem Lent.up {w W W' : World} {ns : List Nd} {oa : Option Addr} {oc : Nat} (h : Lent w W ns oa oc) (hb : Below W.heap.size W W') : Lent w W' ns oa oc := by
  obtain ⟨cl, h1, h2, h3, h4⟩ := h
  exact ⟨cl, h1, own_below h2 hb, fun c hc => (h3 c hc).below hb, below_trans h4 hb⟩
theorem own_off {w : World} {B e size n ob o : Nat} {v u : Value} {xs : List Value} {cs : Array Value} {t : TypeId} (h : w.ownsRow B e size v n xs) (hb : w.heap[ob]? = some (.cells cs t (0, 0))) (he : e ≠ t) : (w.setCell ⟨ob, o, none⟩ u).ownsRow B e size v n xs := by
  refine h.kept (grown_self w ob o u) ?_
  cases hv : v.ownBlock with
  | none => exact Or.inl rfl
  | some k =>
    refine Or.inr (fun e0 => ?_)
    obtain ⟨c1, f1, a⟩ := own_cells h k hv
    cases e0
    rw [a] at hb
    simp at hb
    exact he hb.2.1
theorem Lent.set {w W : World} {ns : List Nd} {oa : Option Addr} {oc ob o : Nat} {cs : Array Value} (h : Lent w W ns oa oc) (hb : W.heap[ob]? = some (.cells cs 24 (0, 0))) (hge : w.heap.size ≤ ob) (u : Value) : Lent w (W.setCell ⟨ob, o, none⟩ u) ns oa oc := by
  obtain ⟨cl, h1, h2, h3, h4⟩ := h
  exact ⟨cl, h1, own_off h2 hb (by decide), fun c hc => ⟨own_off (h3 c hc).f hb (by decide), own_off (h3 c hc).r hb (by decide), own_off (h3 c hc).v hb (by decide), (h3 c hc).fn, (h3 c hc).rn, (h3 c hc).vn⟩, h4.setCell (p := ⟨ob, o, none⟩) hge _⟩
theorem cert_set3 {w W : World} {ns : List Nd} {oa : Option Addr} {oc ob : Nat} {a0 b0 c0 : Value} (h : Lent w W ns oa oc) (hb : W.heap[ob]? = some (.cells #[a0, b0, c0] 24 (0, 0))) (hge : w.heap.size ≤ ob) (a b c : Value) :
    (((W.setCell ⟨ob, 0, none⟩ a).setCell ⟨ob, 1, none⟩ b).setCell ⟨ob, 2, none⟩ c).heap[ob]? = some (.cells #[a, b, c] 24 (0, 0)) ∧ Lent w (((W.setCell ⟨ob, 0, none⟩ a).setCell ⟨ob, 1, none⟩ b).setCell ⟨ob, 2, none⟩ c) ns oa oc := by
  have h1 := box_set (o := 0) hb a
  have h2 := box_set (o := 1) h1 b
  have h3 := box_set (o := 2) h2 c
  refine ⟨?_, ((h.set hb hge a).set h1 hge b).set h2 hge c⟩
  rw [h3]
  rfl
/-- a node as the caller leaves it -/
def bump (n : Nd) : Nd := ⟨[], [], false, wrap64 (n.rank + 1), []⟩
def blank (c : N5) : N5 := ⟨none, 0, none, 0, none, 0, bump c.n⟩
def mixN (k : Nat) (cl : List N5) : List N5 := (cl.take k).map blank ++ cl.drop k
theorem mix_at (k : Nat) (cl : List N5) (hk : k ≤ cl.length) : (mixN k cl)[k]? = cl[k]? := by
  have hm : ((cl.take k).map blank).length = k := by simp; omega
  rw [mixN, List.getElem?_append_right (by omega), hm, Nat.sub_self, List.getElem?_drop, Nat.add_zero]
theorem set_mix (k : Nat) (cl : List N5) (x : N5) (hx : cl[k]? = some x) : (mixN k cl).set k (blank x) = mixN (k + 1) cl := by
  obtain ⟨hk, rfl⟩ := List.getElem?_eq_some_iff.1 hx
  have hm : ((cl.take k).map blank).length = k := by simp; omega
  rw [mixN, mixN, List.set_append_right _ _ (by omega), hm, Nat.sub_self, List.drop_eq_getElem_cons hk, List.set_cons_zero, List.take_succ_eq_append_getElem hk, List.map_append]
  simp
theorem mix_len (k : Nat) (cl : List N5) (hk : k ≤ cl.length) : (mixN k cl).length = cl.length := by simp [mixN]; omega
theorem nRow_set : ∀ (L : List N5) (k : Nat) (c : N5), k < L.length → (((((nRow L).set (k * 5) (.slice c.fa c.n.facts.length c.fc)).set (k * 5 + 1) (.slice c.ra c.n.ranks.length c.rc)).set (k * 5 + 2) (.bool c.n.reached)).set (k * 5 + 3) (.int .i64 c.n.rank)).set (k * 5 + 4) (.slice c.va c.n.vals.length c.vc) = nRow (L.set k c)
  | [], k, c, h => by simp at h
  | a :: r, 0, c, h => by simp [nRow, nCells]
  | a :: r, k + 1, c, h => by
    have := nRow_set r k c (by simpa using h)
    have e : nRow (a :: r) = nCells a ++ nRow r := rfl
    have e2 : nRow ((a :: r).set (k + 1) c) = nCells a ++ nRow (r.set k c) := rfl
    have hl : (nCells a).length = 5 := rfl
    rw [e, e2, ← this, List.set_append_right _ _ (by omega), List.set_append_right _ _ (by omega), List.set_append_right _ _ (by omega), List.set_append_right _ _ (by omega), List.set_append_right _ _ (by omega), hl]
    rw [show (k + 1) * 5 - 5 = k * 5 by omega, show (k + 1) * 5 + 1 - 5 = k * 5 + 1 by omega, show (k + 1) * 5 + 2 - 5 = k * 5 + 2 by omega, show (k + 1) * 5 + 3 - 5 = k * 5 + 3 by omega, show (k + 1) * 5 + 4 - 5 = k * 5 + 4 by omega]
theorem row_store {w : World} {B g cap n k : Nat} {L : List N5} (h : w.ownsRow B 50 5 (.slice (some ⟨g, 0, none⟩) n cap) n (nRow L)) (hk : k < L.length) (c : N5) :
    (((((w.setCell ⟨g, k * 5, none⟩ (.slice c.fa c.n.facts.length c.fc)).setCell ⟨g, k * 5 + 1, none⟩ (.slice c.ra c.n.ranks.length c.rc)).setCell ⟨g, k * 5 + 2, none⟩ (.bool c.n.reached)).setCell ⟨g, k * 5 + 3, none⟩ (.int .i64 c.n.rank)).setCell ⟨g, k * 5 + 4, none⟩ (.slice c.va c.n.vals.length c.vc)).ownsRow B 50 5 (.slice (some ⟨g, 0, none⟩) n cap) n (nRow (L.set k c)) ∧
    w.grownBy (((((w.setCell ⟨g, k * 5, none⟩ (.slice c.fa c.n.facts.length c.fc)).setCell ⟨g, k * 5 + 1, none⟩ (.slice c.ra c.n.ranks.length c.rc)).setCell ⟨g, k * 5 + 2, none⟩ (.bool c.n.reached)).setCell ⟨g, k * 5 + 3, none⟩ (.int .i64 c.n.rank)).setCell ⟨g, k * 5 + 4, none⟩ (.slice c.va c.n.vals.length c.vc)) (some g) := by
  have h0 := h.stored (k * 5) (.slice c.fa c.n.facts.length c.fc)
  have h1 := h0.1.stored (k * 5 + 1) (.slice c.ra c.n.ranks.length c.rc)
  have h2 := h1.1.stored (k * 5 + 2) (.bool c.n.reached)
  have h3 := h2.1.stored (k * 5 + 3) (.int .i64 c.n.rank)
  have h4 := h3.1.stored (k * 5 + 4) (.slice c.va c.n.vals.length c.vc)
  exact ⟨by rw [← nRow_set L k c hk]; exact h4.1, ((((h0.2).trans h1.2).trans h2.2).trans h3.2).trans h4.2⟩
theorem nown_blank (w : World) (B : Nat) (c : N5) : NOwn w B (blank c) := ⟨World.ownsRow_nil _ _ _ _, World.ownsRow_nil _ _ _ _, World.ownsRow_nil _ _ _ _, fun _ => rfl, fun _ => rfl, fun _ => rfl⟩
theorem ndin_bump (n : Nd) : NdIn (bump n) := by
  refine ⟨fun f hf => by simp [bump] at hf, fun f hf => by simp [bump] at hf, ?_, fun v hv => by simp [bump] at hv, by simp [bump], by simp [bump], by simp [bump]⟩
  show I64 (wrap64 (n.rank + 1))
  unfold wrap64 I64
  omega
theorem bumped {w : World} {B oc n : Nat} {oa : Option Addr} {cl : List N5} {ns : List Nd} (hcl : cl.map N5.n = ns) (hn : cl.length = n) (h : w.ownsRow B 50 5 (.slice oa n oc) n (nRow (mixN n cl))) : NodesAt w oa (ns.map bump) := by
  subst hn
  have e : mixN cl.length cl = cl.map blank := by simp [mixN]
  rw [e] at h
  have h2 : w.ownsRow B 50 5 (.slice oa cl.length oc) (cl.map blank).length (nRow (cl.map blank)) := by simpa using h
  have h3 := nodes_own h2 (B2 := 0) (fun c hc => by obtain ⟨d, _, rfl⟩ := List.mem_map.1 hc; exact nown_blank _ _ _)
  have e2 : (cl.map blank).map N5.n = ns.map bump := by rw [← hcl]; simp [blank, Function.comp_def]
  rwa [e2] at h3
theorem grown_drew1 {a b : World} {row : Option Nat} (h : a.grownBy b row) : a.grownBy b.drew row := ⟨h.os, h.tape, h.output, h.size, h.block⟩
theorem grown_drewN {a b : World} {row : Option Nat} (h : a.grownBy b row) (n : Nat) : a.grownBy (b.drewN n) row := ⟨h.os, h.tape, h.output, h.size, h.block⟩
set_option maxHeartbeats 4000000 in
set_option maxRecDepth 100000 in
theorem encoded_any (na : Option Addr) (nc : Nat) (c : Ct) (w : World) (h : NodesAt w na c.nodes) (hc : CtIn c) :
    Calls Try.prog 6 #[.agg #[.int .i64 c.problem, .int .i64 c.grade, .slice na c.nodes.length nc]] w fun e w' => e = .returned (.bool true) ∧ Below w.heap.size w w' := by
  obtain ⟨p, g, ns⟩ := c
  have HH : Hid (NodesAt w na ns ∧ CtIn ⟨p, g, ns⟩) := ⟨h, hc⟩
  clear h hc
  simp only
  go_enter Try.func6, Try.ntmps6
  go_upto_region 1 with (fail)
  generalize hV : w.alloc (.cells #[.int .i64 p, .int .i64 g, .slice na ns.length nc] 24) = W0
  have HB : Hid (Below w.heap.size w W0 ∧ W0.heap[w.heap.size]? = some (.cells #[.int .i64 p, .int .i64 g, .slice na ns.length nc] 24 (0, 0))) := by
    subst hV
    exact ⟨below1 _ _, heap_alloc_new w _⟩
  have e0 := (Array.getElem?_eq_some_iff.1 HB.out.2).1
  clear hV
  obtain ⟨x1, x2⟩ := box_cells HB.out.2
  go_cut [3] from 15 (fun own wx => ∃ (ob : Nat) (oa : Option Addr) (oc : Nat), own = .pointer (some ⟨ob, 0, none⟩) ∧ Hid (W0.heap.size ≤ ob ∧ wx.heap[ob]? = some (.cells #[.int .i64 p, .int .i64 g, .slice oa ns.length oc] 24 (0, 0)) ∧ Lent W0 wx ns oa oc))
  case first =>
    have d0 : W0.cell? ⟨w.heap.size, 0, none⟩ = some (.int .i64 p) := by rw [Lib.cell_of_heap HB.out.2]; rfl
    have d1 : W0.cell? ⟨w.heap.size, 1, none⟩ = some (.int .i64 g) := by rw [Lib.cell_of_heap HB.out.2]; rfl
    have d2 : W0.cell? ⟨w.heap.size, 2, none⟩ = some (.slice na ns.length nc) := by rw [Lib.cell_of_heap HB.out.2]; rfl
    have HD := (show Hid _ from And.intro d0 (And.intro d1 d2))
    have n1 : w.heap.size ≠ W0.heap.size := by omega
    have n2 : W0.heap.size ≠ w.heap.size := by omega
    clear x1 x2
    go_region_held3 (fun w' => w'.cell? ⟨w.heap.size, 0, none⟩ = some (.int .i64 p) ∧ w'.cell? ⟨w.heap.size, 1, none⟩ = some (.int .i64 g) ∧ w'.cell? ⟨w.heap.size, 2, none⟩ = some (.slice na ns.length nc)) (go_keep) ((go_at_call 13; refine (lent_any na nc ns _ (by exact (HH.out.1.below HB.out.1).below (by repeat (first | with_reducible exact Below.refl _ _ | with_reducible refine below_drewN ?_ _ | with_reducible refine Below.drew ?_ | refine Below.alloc ?_ (by first | (simp; done) | (simp; omega)) _))) HH.out.2.nodes HH.out.2.sz).mono ?_; rintro e W1 ⟨oa, oc, rfl, hL⟩; have hL2 := hL.from (w := W0) (by repeat (first | with_reducible exact Below.refl _ _ | with_reducible refine below_drewN ?_ _ | with_reducible refine Below.drew ?_ | refine Below.alloc ?_ (by first | (simp; done) | (simp; omega)) _)); have d0 := cell_stays HD.out.1 hL2.below; have d1 := cell_stays HD.out.2.1 hL2.below; have d2 := cell_stays HD.out.2.2 hL2.below; (first | (have hzz : W1.heap[W0.heap.size]? = some (.cells #[.int .i64 0, .int .i64 0, .slice none 0 0] 24 (0, 0)) := ((hL.below.block W0.heap.size (by simp)).trans (heap_alloc_new W0 _)); obtain ⟨z1, z2⟩ := box_cells hzz; have HZ := (show Hid _ from hzz); clear hzz) | skip); have e1 : w.heap.size < W1.heap.size := (by have := hL2.below.size; omega); have HL : Hid (Lent W0 W1 ns oa oc) := hL2; clear hL hL2))
    all_goals
      go_wp2_with fail
      go_meet
      case rel =>
        first
          | exact ⟨W0.heap.size, oa, oc, rfl, Nat.le_refl _, cert_set3 HL.out HZ.out (Nat.le_refl _) _ _ _⟩
          | exact ⟨W1.heap.size, oa, oc, rfl, HL.out.below.size, heap_alloc_new W1 _, HL.out.up (below1 W1 _)⟩
  case rest =>
    obtain ⟨ob, oa, oc, rfl, HC⟩ := hcut
    rename World => W1
    clear x1 x2
    have hbelow : Below W0.heap.size W0 W1 := HC.out.2.2.below
    have hbx := (hbelow.block _ e0).trans HB.out.2
    obtain ⟨x1, x2⟩ := box_cells hbx
    obtain ⟨y1, y2⟩ := box_cells HC.out.2.1
    have HA : Hid (NodesAt W1 oa ns ∧ NodesAt W1 na ns) := ⟨HC.out.2.2.at, HH.out.1.below (below_trans HB.out.1 hbelow)⟩
    have HX := (show Hid _ from And.intro hbelow hbx)
    clear hbelow hbx
    go_upto_region 5 with (first
      | (go_at_call 15; refine (sameNodes_any oa na oc nc ns _ (HA.out.1.below H3.out) (HA.out.2.below H3.out) HH.out.2.nodes HH.out.2.sz).mono ?_; clear x1 x2 y1 y2; rintro e W4 ⟨rfl, b4⟩; have H4 := (show Hid _ from below_trans H3.out b4); clear b4)
      | (go_at_call 14; refine (rencode_any na nc ⟨p, g, ns⟩ _ (HA.out.2.below H2.out) HH.out.2).mono ?_; clear x1 x2 y1 y2; rintro e W3 ⟨rfl, b3⟩; have H3 := (show Hid _ from below_trans H2.out b3); obtain ⟨x1, x2⟩ := box_cells ((H3.out.block _ (Array.getElem?_eq_some_iff.1 HX.out.2).1).trans HX.out.2); obtain ⟨y1, y2⟩ := box_cells ((H3.out.block _ (Array.getElem?_eq_some_iff.1 HC.out.2.1).1).trans HC.out.2.1); clear b3)
      | (go_at_call 10; refine (wEncode_any oa oc ⟨p, g, ns⟩ _ HA.out.1 HH.out.2).mono ?_; clear x1 x2 y1 y2; rintro e W2 ⟨rfl, b2⟩; have H2 := (show Hid _ from b2); obtain ⟨x1, x2⟩ := box_cells ((H2.out.block _ (Array.getElem?_eq_some_iff.1 HX.out.2).1).trans HX.out.2); obtain ⟨y1, y2⟩ := box_cells ((H2.out.block _ (Array.getElem?_eq_some_iff.1 HC.out.2.1).1).trans HC.out.2.1); clear b2))
    obtain ⟨cl, hcl, hrow, hno, _⟩ := HC.out.2.2
    have hlen : cl.length = ns.length := by rw [← hcl]; simp
    have hob := (H4.out.block _ (Array.getElem?_eq_some_iff.1 HC.out.2.1).1).trans HC.out.2.1
    have hcb := (H4.out.block _ (Array.getElem?_eq_some_iff.1 HX.out.2).1).trans HX.out.2
    have hrow4 := own_below hrow H4.out
    rw [hlen] at hrow4
    have hB4 : Below w.heap.size w W4 := below_trans (below_trans HB.out.1 HX.out.1) H4.out
    have HF := (show Hid _ from And.intro hcl (And.intro hlen (And.intro hob (And.intro hcb (And.intro hrow4 hB4)))))
    have hsz : ns.length * 88 ≤ 140737488355328 := HH.out.2.sz
    have ge0 : W0.heap.size ≤ ob := HC.out.1
    clear hcl hlen hob hcb hrow4 hB4 hrow hno HA HC HX H2 H3 H4
    go_wp2_with fail
    go_loopw [9] (fun i wr => ∃ k : Nat, k ≤ ns.length ∧ i = .int .i64 k ∧ Hid (wr.ownsRow W0.heap.size 50 5 (.slice oa ns.length oc) ns.length (nRow (mixN k cl))) ∧ Hid (W4.grownBy wr (Value.slice oa ns.length oc).ownBlock)) (fun i _ => ns.length - (intOf i).toNat)
    case atStart => exact ⟨0, Nat.zero_le _, rfl, by show World.ownsRow _ _ _ _ _ _ _; simpa [mixN] using HF.out.2.2.2.2.1, World.grownBy.refl _ _⟩
    case round =>
      obtain ⟨k, hk, rfl, HR, HG⟩ := hrel
      have hrow0 := HF.out.2.2.2.2.1
      have hobk := (HG.out.block _ (Array.getElem?_eq_some_iff.1 HF.out.2.2.1).1 (fun e => by obtain ⟨cc, ff, hh⟩ := own_cells hrow0 _ e.symm; rw [HF.out.2.2.1] at hh; simp at hh)).trans HF.out.2.2.1
      have hcbk := (HG.out.block _ (Array.getElem?_eq_some_iff.1 HF.out.2.2.2.1).1 (fun e => by obtain ⟨cc, ff, hh⟩ := own_cells hrow0 _ e.symm; rw [HF.out.2.2.2.1] at hh; simp at hh)).trans HF.out.2.2.2.1
      obtain ⟨y1, y2⟩ := box_cells hobk
      by_cases hlt : k < ns.length
      · have hlti : (k : Int) < (ns.length : Int) := by omega
        obtain ⟨c, hx⟩ : ∃ c, cl[k]? = some c := ⟨_, List.getElem?_eq_getElem (by have := HF.out.2.1; omega)⟩
        have hmix : (mixN k cl)[k]? = some c := by rw [mix_at k cl (by have := HF.out.2.1; omega)]; exact hx
        have hml : (mixN k cl).length = ns.length := by rw [mix_len k cl (by have := HF.out.2.1; omega)]; exact HF.out.2.1
        obtain ⟨gb, hoa⟩ : ∃ gb, oa = some ⟨gb, 0, none⟩ := by
          rcases HR.out.2 with ⟨_, e⟩ | ⟨g, cap, cur, hv, _⟩
          · omega
          · simp at hv; exact ⟨g, hv.1⟩
        subst hoa
        have hcells := HR.out.cells (g := gb) rfl
        have key : ∀ i x, (nCells c)[i]? = some x → wr.cell? ⟨gb, 0 + (k * 5 + i), none⟩ = some x := by
          intro i x hxx
          have := hcells _ _ (nRow_at _ k c hmix i x hxx)
          rwa [Addr.add_lit] at this
        have k0 : wr.cell? ⟨gb, k * 5, none⟩ = some (.slice c.fa c.n.facts.length c.fc) := by simpa using key 0 _ rfl
        have k1 : wr.cell? ⟨gb, k * 5 + 1, none⟩ = some (.slice c.ra c.n.ranks.length c.rc) := by simpa [Nat.add_assoc] using key 1 _ rfl
        have k2 : wr.cell? ⟨gb, k * 5 + 2, none⟩ = some (.bool c.n.reached) := by simpa [Nat.add_assoc] using key 2 _ rfl
        have k3 : wr.cell? ⟨gb, k * 5 + 3, none⟩ = some (.int .i64 c.n.rank) := by simpa [Nat.add_assoc] using key 3 _ rfl
        have k4 : wr.cell? ⟨gb, k * 5 + 4, none⟩ = some (.slice c.va c.n.vals.length c.vc) := by simpa [Nat.add_assoc] using key 4 _ rfl
        have kf : ∀ o, wr.frozen? ⟨gb, o, none⟩ = false := fun o => HR.out.frozenAt o
        have d2 : wr.cell? ⟨ob, 2, none⟩ = some (.slice (some ⟨gb, 0, none⟩) ns.length oc) := by rw [Lib.cell_of_heap hobk]; rfl
        have hne : gb ≠ ob := by
          rintro rfl
          obtain ⟨cc, ff, hh⟩ := own_cells HR.out gb rfl
          rw [hobk] at hh
          simp at hh
        have hne2 : ob ≠ gb := fun e => hne e.symm
        have HS := (show Hid _ from And.intro hx hml)
        clear hx hmix hml hcells key hrow0 hcbk hobk
        go_wp2_with fail
        clear y1 y2
        go_region_law (fail)
        all_goals
          clear k0 k1 k2 k3 k4 kf d2
          go_wp2_with fail
          go_roundw
          case rel =>
            have hst := row_store HR.out (k := k) (by rw [HS.out.2]; exact hlt) (blank c)
            rw [set_mix k cl c HS.out.1] at hst
            simp only [blank, bump, List.length_nil] at hst
            exact ⟨k + 1, by omega, by go_num, hst.1.drew, grown_drew1 (HG.out.trans hst.2)⟩
          case measure => simp [intOf]; omega
      · have hlti : ¬ (k : Int) < (ns.length : Int) := by omega
        obtain rfl : k = ns.length := by omega
        have hat := bumped HF.out.1 HF.out.2.1 HR.out
        have hct : CtIn ⟨p, g, ns.map bump⟩ := ⟨HH.out.2.problem, HH.out.2.grade, fun n hn => by obtain ⟨m, _, rfl⟩ := List.mem_map.1 hn; exact ndin_bump m, by simpa using HH.out.2.sz⟩
        have hl2 : (ns.map bump).length = ns.length := List.length_map ..
        generalize ns.map bump = ms at hat hct hl2
        have hBw : Below w.heap.size w wr := HF.out.2.2.2.2.2.grown HG.out HF.out.2.2.2.2.2.size (fun k hk => by have := (hrow0.lt k hk).1; have := HB.out.1.size; omega)
        have hlen : ∀ W, Below wr.heap.size wr W → Calls Try.prog 13 #[.slice oa ns.length oc] W fun e W' => ∃ ta tc, e = .returned (.slice ta ns.length tc) ∧ Lent W W' ms ta tc := by
          intro W hW
          have := lent_any oa oc ms W (hat.below hW) hct.nodes hct.sz
          rw [hl2] at this
          exact this
        have hwe : ∀ W, Below wr.heap.size wr W → Calls Try.prog 10 #[.agg #[.int .i64 p, .int .i64 g, .slice oa ns.length oc]] W fun e W' => e = .returned (.tuple #[.string (encR ⟨p, g, ms⟩).1, .int .i64 (encR ⟨p, g, ms⟩).2]) ∧ Below W.heap.size W W' := by
          intro W hW
          have := wEncode_any oa oc ⟨p, g, ms⟩ W (hat.below hW) hct
          simp only at this
          rw [hl2] at this
          exact this
        have hre : ∀ ta tc W, NodesAt W ta ms → Calls Try.prog 14 #[.agg #[.int .i64 p, .int .i64 g, .slice ta ns.length tc]] W fun e W' => e = .returned (.tuple #[.string (encR ⟨p, g, ms⟩).1, .int .i64 (encR ⟨p, g, ms⟩).2]) ∧ Below W.heap.size W W' := by
          intro ta tc W hW
          have := rencode_any ta tc ⟨p, g, ms⟩ W hW hct
          simp only at this
          rw [hl2] at this
          exact this
        have HL := (show Hid _ from And.intro hlen (And.intro hwe hre))
        have HW := (show Hid _ from And.intro hBw (And.intro hobk hcbk))
        have eob := (Array.getElem?_eq_some_iff.1 hobk).1
        have ecb := (Array.getElem?_eq_some_iff.1 hcbk).1
        have d0 : wr.cell? ⟨w.heap.size, 0, none⟩ = some (.int .i64 p) := by rw [Lib.cell_of_heap hcbk]; rfl
        have d1 : wr.cell? ⟨w.heap.size, 1, none⟩ = some (.int .i64 g) := by rw [Lib.cell_of_heap hcbk]; rfl
        have d2 : wr.cell? ⟨ob, 2, none⟩ = some (.slice oa ns.length oc) := by rw [Lib.cell_of_heap hobk]; rfl
        have HD := (show Hid _ from And.intro d0 (And.intro d1 d2))
        clear hlen hwe hre hat hct hBw hrow0 hobk hcbk HR HG HF
        go_upto_region 9 with (fail)
        clear y1 y2
        go_cut [10] from 15 (fun tw wx => ∃ (tb : Nat) (ta : Option Addr) (tc : Nat), tw = .pointer (some ⟨tb, 0, none⟩) ∧ Hid (wr.heap.size ≤ tb ∧ wx.heap[tb]? = some (.cells #[.int .i64 p, .int .i64 g, .slice ta ns.length tc] 24 (0, 0)) ∧ Lent wr wx ms ta tc))
        case first =>
          have n1 : w.heap.size ≠ wr.heap.size := by omega
          have n2 : wr.heap.size ≠ w.heap.size := by omega
          have n3 : ob ≠ wr.heap.size := by omega
          have n4 : wr.heap.size ≠ ob := by omega
          go_region_held3 (fun w' => w'.cell? ⟨w.heap.size, 0, none⟩ = some (.int .i64 p) ∧ w'.cell? ⟨w.heap.size, 1, none⟩ = some (.int .i64 g) ∧ w'.cell? ⟨ob, 2, none⟩ = some (.slice oa ns.length oc)) (go_keep) ((go_at_call 13; refine (HL.out.1 _ (by exact (by repeat (first | with_reducible exact Below.refl _ _ | with_reducible refine below_drewN ?_ _ | with_reducible refine Below.drew ?_ | refine Below.alloc ?_ (by first | (simp; done) | (simp; omega)) _)))).mono ?_; rintro e W5 ⟨ta, tc, rfl, hL⟩; have hL2 := hL.from (w := wr) (by repeat (first | with_reducible exact Below.refl _ _ | with_reducible refine below_drewN ?_ _ | with_reducible refine Below.drew ?_ | refine Below.alloc ?_ (by first | (simp; done) | (simp; omega)) _)); have d0 := cell_stays HD.out.1 hL2.below; have d1 := cell_stays HD.out.2.1 hL2.below; have d2 := cell_stays HD.out.2.2 hL2.below; (first | (have hzz : W5.heap[wr.heap.size]? = some (.cells #[.int .i64 0, .int .i64 0, .slice none 0 0] 24 (0, 0)) := ((hL.below.block wr.heap.size (by simp)).trans (heap_alloc_new wr _)); obtain ⟨z1, z2⟩ := box_cells hzz; have HZ := (show Hid _ from hzz); clear hzz) | skip); have e1 : w.heap.size < W5.heap.size := (by have := hL2.below.size; omega); have e2 : ob < W5.heap.size := (by have := hL2.below.size; omega); have HQ : Hid (Lent wr W5 ms ta tc) := hL2; clear hL hL2))
          all_goals
            go_wp2_with fail
            go_meet
            case rel =>
              first
                | exact ⟨wr.heap.size, ta, tc, rfl, Nat.le_refl _, cert_set3 HQ.out HZ.out (Nat.le_refl _) _ _ _⟩
                | exact ⟨W5.heap.size, ta, tc, rfl, HQ.out.below.size, heap_alloc_new W5 _, HQ.out.up (below1 W5 _)⟩
        case rest =>
          obtain ⟨tb, ta, tc, rfl, HT⟩ := hcut
          rename World => W5
          clear d0 d1 d2 HD
          have hb5 : Below wr.heap.size wr W5 := HT.out.2.2.below
          have hob5 := (hb5.block _ eob).trans HW.out.2.1
          obtain ⟨y1, y2⟩ := box_cells hob5
          have hat5 : NodesAt W5 ta ms := HT.out.2.2.at
          have H5 := (show Hid _ from And.intro hb5 hat5)
          clear hb5 hat5 hob5
          go_wp2_with (first
            | (go_at_call 16; refine (num_any _ _).mono ?_; rintro e w9 ⟨rfl, rfl⟩)
            | (go_at_call 14; refine (HL.out.2.2 ta tc _ (H5.out.2.below H6.out)).mono ?_; clear z1 z2; rintro e W7 ⟨rfl, b7⟩; have H7 := (show Hid _ from below_trans H6.out b7); clear b7)
            | (go_at_call 10; refine (HL.out.2.1 _ H5.out.1).mono ?_; clear y1 y2; rintro e W6 ⟨rfl, b6⟩; have H6 := (show Hid _ from b6); obtain ⟨z1, z2⟩ := box_cells ((b6.block _ (Array.getElem?_eq_some_iff.1 HT.out.2.1).1).trans HT.out.2.1); clear b6))
          go_ret
          exact ⟨rfl, below_trans (below_trans HW.out.1 H5.out.1) H7.out⟩
end Go.Proofs.Ytmipbiligijcpaa
