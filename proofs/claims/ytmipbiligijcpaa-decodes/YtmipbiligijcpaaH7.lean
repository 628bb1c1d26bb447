/- The program's Encode. -/
import Derived.Test.YtmipbiligijcpaaH6
import Derived.ArgAppend
import Derived.Deep.Cut
import Derived.Lib.SlBytesConst
import Derived.Lib.SlBytesRow
namespace Go.Proofs.Ytmipbiligijcpaa
set_option linter.unusedVariables false
set_option linter.unusedSimpArgs false
open Go.RowKit Go.Proofs Go.Maps

theorem below_up {B : Nat} {u v w : World} (h : Below B u v) (k : Below B v w) : Below B u w := h.trans k
set_option maxHeartbeats 1000000 in
set_option maxRecDepth 100000 in
theorem node_any (B b : Nat) (l : List UInt8) (p g : Int) (fa ra va : Option Addr) (fc rc vc : Nat) (n : Nd) (w : World) (h : Wr w B b l) (hat : ∀ W, Below B w W → NdAt W fa ra va fc rc vc n) (hn : NdIn n) (hok : okNode p g n = true) (hlen : l.length + 4000000 ≤ 140737488355328) :
    Calls Try.prog 38 #[.pointer (some ⟨b, 0, none⟩), .agg #[.int .i64 p, .int .i64 g], .agg #[.slice fa n.facts.length fc, .slice ra n.ranks.length rc, .bool n.reached, .int .i64 n.rank, .slice va n.vals.length vc]] w fun e w' => e = .returned (.tuple #[]) ∧ Wrote w w' B b (l ++ nodeB p g n) := by
  have H := (show Hid _ from (h.wrote.alloc (.cells #[.int .i64 p, .int .i64 g] 80)).alloc (.cells #[.slice fa n.facts.length fc, .slice ra n.ranks.length rc, .bool n.reached, .int .i64 n.rank, .slice va n.vals.length vc] 50))
  have HA : Hid ((∀ W, Below B w W → NdAt W fa ra va fc rc vc n) ∧ NdIn n) := ⟨hat, hn⟩
  clear h hat hn
  cases hp : decide (p ≤ 4) with
  | true =>
    have hp' : p ≤ 4 := by simpa using hp
    have HO : Hid (nodeB p g n = setB n ∧ okSet g n = true) := by
      refine ⟨by unfold nodeB; rw [if_pos hp'], ?_⟩
      unfold okNode at hok
      rwa [if_pos hp'] at hok
    clear hok hp'
    go_enter Try.func38, Try.ntmps38
    go_wp2_with (first
      | (go_at_call 50; refine (hasSets_any _ _ _).mono ?_; rw [hp]; rintro e w1 ⟨rfl, rfl⟩)
      | (go_at_call 51; refine (set_any B b l g fa ra va fc rc vc n _ (H.out.wr.alloc _) (fun W hb => (HA.out.1 W ((H.out.alloc _).below.trans hb)).facts) (fun W hb => (HA.out.1 W ((H.out.alloc _).below.trans hb)).ranks) HO.out.2 (by omega)).mono ?_; rintro e W1 ⟨rfl, h1⟩; have H1 := (show Hid _ from h1); clear h1))
    (try simp only [Exit.inBlock, Exit.then]); refine bodyPost_ret (results_none rfl _ _ _) rfl ?_
    refine ⟨rfl, ?_⟩
    rw [HO.out.1]
    exact (H.out.alloc _).trans H1.out
  | false =>
    have hp' : ¬ p ≤ 4 := by simpa using hp
    cases hr : n.reached with
    | true =>
      have HO : Hid (nodeB p g n = [if true = true then 1 else 0] ++ envB p g n ∧ okEnv p g n = true) := by
        refine ⟨by unfold nodeB; rw [if_neg hp', hr]; rfl, ?_⟩
        unfold okNode at hok
        rwa [if_neg hp', hr, if_pos rfl] at hok
      rw [hr] at H
      clear hok hp'
      have hc := fun W h hb => environment_any B b (l ++ [if true = true then 1 else 0]) p g fa ra va fc rc vc n W h (fun W2 h2 => (HA.out.1 W2 (below_up hb h2)).vals) HA.out.2 HO.out.2 (by simp only [List.length_append, List.length_singleton]; omega)
      rw [hr] at hc
      go_enter Try.func38, Try.ntmps38
      go_wp2_with (first
        | (go_at_call 50; refine (hasSets_any _ _ _).mono ?_; rw [hp]; rintro e w1 ⟨rfl, rfl⟩)
        | (go_at_call 53; refine (hc _ H1.out.1.wr ((H.out.alloc _).below.trans H1.out.1.below)).mono ?_; rintro e W2 ⟨rfl, h2⟩; have H2 := (show Hid _ from h2); clear h2)
        | (go_at_call 52; refine (flag_any B b l true _ (H.out.wr.alloc _) (by omega)).mono ?_; rintro e W1 ⟨rfl, h1⟩; have k1 := h1.box (H.out.wr.alloc _) ((Below.heap_alloc _ _ _ (by simp; omega)).trans (alloc2 w _ _).1) (by decide) (by decide); have k2 := h1.box (H.out.wr.alloc _) ((Below.heap_alloc _ _ _ (by simp)).trans (alloc2 w _ _).2) (by decide) (by decide); obtain ⟨x1, x2⟩ := box_cells k1; obtain ⟨y1, y2⟩ := box_cells k2; have H1 := (show Hid _ from And.intro h1 (And.intro k1 k2)); clear h1 k1 k2))
      go_end0
      refine ⟨rfl, ?_⟩
      rw [HO.out.1, ← List.append_assoc]
      exact ((H.out.alloc _).trans H1.out.1).trans H2.out
    | false =>
      have HO : Hid (nodeB p g n = [if false = true then 1 else 0]) := by show _ = _; unfold nodeB; rw [if_neg hp', hr]; rfl
      rw [hr] at H
      clear hok hp'
      go_enter Try.func38, Try.ntmps38
      go_wp2_with (first
        | (go_at_call 50; refine (hasSets_any _ _ _).mono ?_; rw [hp]; rintro e w1 ⟨rfl, rfl⟩)
        | (go_at_call 52; refine (flag_any B b l false _ (H.out.wr.alloc _) (by omega)).mono ?_; rintro e W1 ⟨rfl, h1⟩; have k1 := h1.box (H.out.wr.alloc _) ((Below.heap_alloc _ _ _ (by simp; omega)).trans (alloc2 w _ _).1) (by decide) (by decide); have k2 := h1.box (H.out.wr.alloc _) ((Below.heap_alloc _ _ _ (by simp)).trans (alloc2 w _ _).2) (by decide) (by decide); obtain ⟨x1, x2⟩ := box_cells k1; obtain ⟨y1, y2⟩ := box_cells k2; have H1 := (show Hid _ from And.intro h1 (And.intro k1 k2)); clear h1 k1 k2))
      go_end0
      refine ⟨rfl, ?_⟩
      rw [HO.out]
      exact (H.out.alloc _).trans H1.out.1
theorem conv_at (w : World) (C : Array Value) (n c g : Nat) (hg : g = w.heap.size) :
    (convert 64 64 (.slice (some ⟨g, 0, none⟩) n c)).run Try.prog (w.alloc (.cells C 5)) = .ok (.slice (some ⟨g, 0, none⟩) n c) (w.alloc (.cells C 5 (C.size, C.size + 1))) := by
  subst hg; exact Lib.run_convert_bytes_const w 64 5 C n c Try.underlying64 Try.underlying5
set_option maxHeartbeats 1000000 in
set_option maxRecDepth 100000 in
theorem octet_full (B b r n : Nat) (l : List UInt8) (c : UInt8) (w : World) (hB : B ≤ b) (hb : w.heap[b]? = some (.cells #[.slice (some ⟨r, 0, none⟩) n n] 82 (0, 0))) (hn : n = l.length) (hl : ∀ (j : Nat) (u : Value), (Lib.byteCells l)[j]? = some u → w.cell? ⟨r, 0 + j, none⟩ = some u) (hlen : l.length + 1 ≤ 140737488355328) :
    Calls Try.prog 36 #[.pointer (some ⟨b, 0, none⟩), .int .u8 c.toNat] w fun e w' => e = .returned (.tuple #[]) ∧ Wrote w w' B b (l ++ [c]) := by
  obtain ⟨i0, hi, hz0, hz1, hz2⟩ := info_parts infoByte
  subst hn
  have c1 : w.cell? ⟨b, 0, none⟩ = some (.slice (some ⟨r, 0, none⟩) l.length l.length) := by rw [Lib.cell_of_heap hb]; rfl
  have hlt : b < w.heap.size := (Array.getElem?_eq_some_iff.1 hb).1
  have HR := (show Hid _ from And.intro hb hl)
  clear hb hl
  go_enter Try.func36, Try.ntmps36
  go_wp2_with (at_builtin; refine wpList_append_grows _ rfl _ _ 64 rfl 5 i0 (.int .u8 0) 1 1 Try.underlying64 hi hz0 hz1 hz2 rfl (by decide) (some ⟨r, 0, none⟩) l.length l.length (Lib.byteCells l) rfl ?c0 ?c1 ?c2 ⟨w.heap.size, 0, none⟩ 1 1 [.int .u8 c.toNat] rfl rfl ?c3 ?c4 ?c5 ?c6 ?c7 ?_)
  case c0 => intro h; cases h
  case c1 => simp [Lib.byteCells]
  case c2 =>
    intro ad had j u hj
    cases had
    have h1 := HR.out.2 j u hj
    have h2 : (⟨r, 0, none⟩ : Addr).add j = ⟨r, 0 + j, none⟩ := by rw [Addr.add_lit]
    rw [h2]
    exact (cell_block (Below.heap_alloc _ _ _ (cell_lt h1))).trans h1
  case c3 => exact cell_one _ _ _
  case c4 => intro u hu; simp at hu; subst hu; rfl
  case c5 => omega
  case c6 => unfold maxLen; omega
  case c7 => omega
  intro v' w2 hown' hgrow
  have hb2 : w2.heap[b]? = some (.cells #[.slice (some ⟨r, 0, none⟩) l.length l.length] 82 (0, 0)) := by
    rw [hgrow.block b (by simp; omega) (by simp)]
    exact (Below.heap_alloc _ _ _ hlt).trans HR.out.1
  have d1 : w2.cell? ⟨b, 0, none⟩ = some (.slice (some ⟨r, 0, none⟩) l.length l.length) := by rw [Lib.cell_of_heap hb2]; rfl
  have f1 : w2.frozen? ⟨b, 0, none⟩ = false := Lib.frozen_of_heap hb2 0
  obtain ⟨ao, cap, rfl⟩ := sl_of_own hown'
  go_wp2
  go_end0
  have hne' : (Value.slice ao (l.length + 1) cap).ownBlock ≠ some b := by
    rcases own_lt_ne hown' (q := b) (by first | omega | (simp; omega)) with h | h
    · rw [h]; simp
    · exact h
  have hkp : Kp b w w2 := ⟨hgrow.os, hgrow.tape, hgrow.output, Nat.le_trans (by simp) hgrow.size, fun k o a _ _ => (hgrow.block k (by have := (Array.getElem?_eq_some_iff.1 a).1; simp; omega) (by simp)).trans ((Below.heap_alloc _ _ _ (Array.getElem?_eq_some_iff.1 a).1).trans a)⟩
  refine ⟨rfl, ⟨hB, _, ?_, ?_, hne'⟩, kp_set hkp 0 _, (((Below.refl _ _).alloc (by omega) _).grown hgrow (by simp; omega) (fun k hk => by simp at hk)).setCell (p := ⟨b, 0, none⟩) hB _⟩
  · simp [World.setCell, Array.getElem?_modify, hb2]
  · have e : Lib.byteCells (l ++ [c]) = Lib.byteCells l ++ [Value.int .u8 c.toNat] := by simp [Lib.byteCells]
    rw [List.length_append, e]
    refine ⟨by simpa using hown'.1, ?_⟩
    rcases hown'.2 with h | ⟨g, cp, cur, hv, h1, h2, h3⟩
    · exact Or.inl h
    · refine Or.inr ⟨g, cp, cur, hv, by first | omega | (simp at h1; omega), (Below.heap_setCell _ _ _ _ ?_).trans h2, h3⟩
      rintro rfl
      exact hne' (by rw [hv]; rfl)
theorem octet_nat (B b : Nat) (l : List UInt8) (m : Nat) (w : World) (hm : m < 256) (h : Wr w B b l) (hlen : l.length + 1 ≤ 140737488355328) :
    Calls Try.prog 36 #[.pointer (some ⟨b, 0, none⟩), .int .u8 (m : Int)] w fun e w' => e = .returned (.tuple #[]) ∧ Wrote w w' B b (l ++ [UInt8.ofNat m]) := by
  have := octet_any B b l (UInt8.ofNat m) w h hlen
  rwa [← byte_nat hm] at this
theorem octet_fulln (B b r n : Nat) (l : List UInt8) (m : Nat) (w : World) (hm : m < 256) (hB : B ≤ b) (hb : w.heap[b]? = some (.cells #[.slice (some ⟨r, 0, none⟩) n n] 82 (0, 0))) (hn : n = l.length) (hl : ∀ (j : Nat) (u : Value), (Lib.byteCells l)[j]? = some u → w.cell? ⟨r, 0 + j, none⟩ = some u) (hlen : l.length + 1 ≤ 140737488355328) :
    Calls Try.prog 36 #[.pointer (some ⟨b, 0, none⟩), .int .u8 (m : Int)] w fun e w' => e = .returned (.tuple #[]) ∧ Wrote w w' B b (l ++ [UInt8.ofNat m]) := by
  have := octet_full B b r n l (UInt8.ofNat m) w hB hb hn hl hlen
  rwa [← byte_nat hm] at this
theorem Wrote.box2 {w w' : World} {B b k : Nat} {l : List UInt8} {cs : Array Value} {t : TypeId} (h : Wrote w w' B b l) (hk : w.heap[k]? = some (.cells cs t (0, 0))) (ht : k ≠ b) (h5 : t ≠ 5) : w'.heap[k]? = some (.cells cs t (0, 0)) :=
  h.kp.keep k _ hk ht (fun c' f' e => by simp at e; exact h5 e.2.1)
theorem conv_back {w : World} {B : Nat} {v : Value} {l : List UInt8} (h : w.ownsRow B 5 1 v l.length (Lib.byteCells l)) (h0 : l ≠ []) :
    ∃ a cap, v = .slice (some a) l.length cap ∧ (convert 64 9 (.slice (some a) l.length cap)).run Try.prog w = .ok (.string ⟨l.toArray⟩) w := by
  rcases h.2 with ⟨_, e⟩ | ⟨g, cap, cur, hv, _⟩
  · exact absurd (List.length_eq_zero_iff.1 e) h0
  · refine ⟨_, cap, hv, run_convert_bytes_back w 64 9 5 _ cap l Try.underlying64 Try.underlying5 Try.underlying9 (fun j hj => ?_)⟩
    subst hv
    exact h.cells (g := g) rfl j _ (by simp [Lib.byteCells, hj])
theorem known_nat {p g : Int} (h : known p g = true) : ∃ pn gn : Nat, p = pn ∧ g = gn ∧ 1 ≤ pn ∧ pn ≤ 6 ∧ 1 ≤ gn ∧ gn ≤ 2 := by
  unfold known at h
  simp at h
  refine ⟨p.toNat, g.toNat, ?_⟩
  omega
theorem okC_parts {c : Ct} (h : okC c = true) : known c.problem c.grade = true ∧ c.nodes.length ≤ 60 ∧ ∀ n ∈ c.nodes, okNode c.problem c.grade n = true := by
  unfold okC at h
  simp only [Bool.and_eq_true, decide_eq_true_eq, List.all_eq_true] at h
  exact ⟨h.1.1, h.1.2, h.2⟩
theorem headB_le {c : Ct} (h : c.nodes.length ≤ 60) : (headB c).length ≤ 15 := by
  have := @cnt_le10 c.nodes.length (by omega)
  simp only [headB, List.length_append, List.length_cons, List.length_nil]
  omega
def encR (c : Ct) : ByteArray × Int := match enc c with
  | some l => (⟨l.toArray⟩, 0)
  | none => (⟨#[]⟩, 5)
set_option maxHeartbeats 1000000 in
set_option maxRecDepth 100000 in
theorem encode_any (na : Option Addr) (nc : Nat) (c : Ct) (w : World) (h : NodesAt w na c.nodes) (hc : CtIn c) :
    Calls Try.prog 22 #[.agg #[.int .i64 c.problem, .int .i64 c.grade, .slice na c.nodes.length nc]] w fun e w' => e = .returned (.tuple #[.string (encR c).1, .int .i64 (encR c).2]) ∧ Below w.heap.size w w' := by
  have hcert := fun W hb => isCert_any na nc c W (h.below hb) hc
  obtain ⟨p, g, ns⟩ := c
  have HH : Hid (NodesAt w na ns ∧ ∀ n ∈ ns, NdIn n) := ⟨h, hc.nodes⟩
  have HC := (show Hid _ from hcert)
  clear h hc hcert
  simp only at HC ⊢
  cases hk : okC ⟨p, g, ns⟩ with
  | false =>
    have HO : Hid (encR ⟨p, g, ns⟩ = (⟨#[]⟩, 5)) := by show _ = _; simp [encR, enc, hk]
    go_enter Try.func22, Try.ntmps22
    go_wp2_with (go_at_call 35; refine (HC.out _ (below1 _ _)).mono ?_; rw [hk]; rintro e W1 ⟨rfl, hb1⟩)
    go_ret2
    rw [HO.out]
    exact ⟨rfl, below_trans (below1 _ _) hb1⟩
  | true =>
    obtain ⟨hkn, h60, hall⟩ := okC_parts hk
    simp only at hkn h60 hall
    obtain ⟨pn, gn, rfl, rfl, hp1, hp2, hg1, hg2⟩ := known_nat hkn
    have HK : Hid (okC ⟨pn, gn, ns⟩ = true ∧ (∀ n ∈ ns, okNode pn gn n = true)) := ⟨hk, hall⟩
    clear hk hkn hall
    go_enter Try.func22, Try.ntmps22
    go_wp2_with fail
    refine (HC.out _ (below1 _ _)).mono ?_
    rw [HK.out.1]
    rintro e W1 ⟨rfl, hb1⟩
    have hbox := (hb1.block _ (by simp)).trans (heap_alloc_new w (.cells #[.int .i64 pn, .int .i64 gn, .slice na ns.length nc] 24))
    obtain ⟨x1, x2⟩ := box_cells hbox
    have e0 : w.heap.size < W1.heap.size := by
      have := hb1.size
      simp at this
      omega
    have HB1 := (show Hid _ from And.intro (below_trans (below1 _ _) hb1) hbox)
    have kc := conv_at (W1.alloc (.cells #[.int .i64 pn, .int .i64 gn] 80)) #[.int .u8 87, .int .u8 67, .int .u8 1] 3 3 (W1.heap.size + 1) (by simp)
    clear hb1 hbox
    go_upto_region 5 with (fail)
    clear kc x1 x2
    generalize hV : ((W1.alloc (.cells #[.int .i64 pn, .int .i64 gn] 80)).alloc (.cells #[.int .u8 87, .int .u8 67, .int .u8 1] 5 (3, 4))).alloc (.cells #[.slice (some ⟨W1.heap.size + 1, 0, none⟩) 3 3] 82) = V
    have HV : Hid (Below w.heap.size w V ∧ V.heap[w.heap.size]? = some (.cells #[.int .i64 pn, .int .i64 gn, .slice na ns.length nc] 24 (0, 0)) ∧ V.heap[W1.heap.size]? = some (.cells #[.int .i64 pn, .int .i64 gn] 80 (0, 0)) ∧ V.heap[W1.heap.size + 1 + 1]? = some (.cells #[.slice (some ⟨W1.heap.size + 1, 0, none⟩) 3 3] 82 (0, 0)) ∧ (∀ (j : Nat) (u : Value), (Lib.byteCells [87, 67, 1])[j]? = some u → V.cell? ⟨W1.heap.size + 1, 0 + j, none⟩ = some u)) := by
      subst hV
      refine ⟨below_trans HB1.out.1 (below3 _ _ _ _), ?_, ?_, ?_, ?_⟩
      · exact ((below3 W1 _ _ _).block _ e0).trans HB1.out.2
      · exact (Below.heap_alloc _ _ _ (by simp; omega)).trans (alloc2 W1 _ _).1
      · have := heap_alloc_new ((W1.alloc (.cells #[.int .i64 pn, .int .i64 gn] 80)).alloc (.cells #[.int .u8 87, .int .u8 67, .int .u8 1] 5 (3, 4))) (.cells #[.slice (some ⟨W1.heap.size + 1, 0, none⟩) 3 3] 82)
        simpa using this
      · intro j u hj
        have h3 := (Below.heap_alloc ((W1.alloc (.cells #[.int .i64 pn, .int .i64 gn] 80)).alloc (.cells #[.int .u8 87, .int .u8 67, .int .u8 1] 5 (3, 4))) (.cells #[.slice (some ⟨W1.heap.size + 1, 0, none⟩) 3 3] 82) (W1.heap.size + 1) (by simp)).trans (alloc2 W1 (.cells #[.int .i64 pn, .int .i64 gn] 80) (.cells #[.int .u8 87, .int .u8 67, .int .u8 1] 5 (3, 4))).2
        simp only [World.cell?, h3, Nat.zero_add]
        simpa [Lib.byteCells] using hj
    clear hV HB1
    generalize W1.heap.size = sb at e0 HV ⊢
    obtain ⟨x1, x2⟩ := box_cells HV.out.2.1
    have hpb : pn < 256 := by omega
    have hgb : gn < 256 := by omega
    go_upto_region 8 with (first
      | (go_at_call 37; refine (small_any w.heap.size (sb + 1 + 1) ([87, 67, 1] ++ [UInt8.ofNat pn] ++ [UInt8.ofNat gn]) ns.length _ H2.out.1.wr (by omega) (by omega) (by have := @cntI_le ns.length (by omega); simp only [List.length_append, List.length_cons, List.length_nil]; omega)).mono ?_; clear x1 x2; rintro e V3 ⟨rfl, h3⟩; have k1 := h3.box2 H2.out.2.1 (by omega) (by decide); have k2 := h3.box2 H2.out.2.2 (by omega) (by decide); obtain ⟨x1, x2⟩ := box_cells k1; have H3 := (show Hid _ from And.intro h3 (And.intro k1 k2)); clear h3 k1 k2)
      | (go_at_call 36; refine (octet_nat w.heap.size (sb + 1 + 1) ([87, 67, 1] ++ [UInt8.ofNat pn]) gn _ hgb H1.out.1.wr (by simp)).mono ?_; clear x1 x2; rintro e V2 ⟨rfl, h2⟩; have k1 := h2.box2 H1.out.2.1 (by omega) (by decide); have k2 := h2.box2 H1.out.2.2 (by omega) (by decide); obtain ⟨x1, x2⟩ := box_cells k1; have H2 := (show Hid _ from And.intro h2 (And.intro k1 k2)); clear h2 k1 k2)
      | (go_at_call 36; refine (octet_fulln w.heap.size (sb + 1 + 1) (sb + 1) 3 [87, 67, 1] pn _ hpb (by omega) HV.out.2.2.2.1 rfl HV.out.2.2.2.2 (by simp)).mono ?_; clear x1 x2; rintro e V1 ⟨rfl, h1⟩; have k1 := h1.box2 HV.out.2.1 (by omega) (by decide); have k2 := h1.box2 HV.out.2.2.1 (by omega) (by decide); obtain ⟨x1, x2⟩ := box_cells k1; have H1 := (show Hid _ from And.intro h1 (And.intro k1 k2)); clear h1 k1 k2))
    have HX := (show Hid _ from And.intro HV.out.1 (And.intro (HV.out.1.trans (H1.out.1.below.trans (H2.out.1.below.trans H3.out.1.below))) (And.intro H3.out.1.wr H3.out.2.2)))
    have HD : Hid (headB ⟨pn, gn, ns⟩ = [87, 67, 1] ++ [UInt8.ofNat pn] ++ [UInt8.ofNat gn] ++ cntI ns.length) := by show _ = _; simp [headB, cntI]
    have HL : Hid ((headB ⟨pn, gn, ns⟩).length ≤ 15) := headB_le h60
    clear HV H1 H2 H3
    go_wp2_with fail
    clear x1 x2
    go_loopw [34] (fun i wr => ∃ (k : Nat) (q : List UInt8), k ≤ ns.length ∧ i = .int .i64 k ∧ Hid (q ++ (ns.drop k).flatMap (nodeB pn gn) = encB ⟨pn, gn, ns⟩) ∧ Hid (q.length ≤ 60000 ∧ q ≠ []) ∧ Hid (Below w.heap.size w wr ∧ Wr wr w.heap.size (sb + 1 + 1) q ∧ wr.heap[sb]? = some (.cells #[.int .i64 pn, .int .i64 gn] 80 (0, 0)))) (fun i _ => ns.length - (intOf i).toNat)
    case atStart =>
      refine ⟨0, headB ⟨pn, gn, ns⟩, Nat.zero_le _, rfl, ?_, ⟨by have := HL.out; omega, by rw [HD.out]; simp⟩, HX.out.2.1, by rw [HD.out]; exact HX.out.2.2.1, HX.out.2.2.2⟩
      show _ = _
      simp [encB]
    case round =>
      clear HX HD HL
      obtain ⟨k, q, hkl, rfl, HQ, HL, HW⟩ := hrel
      obtain ⟨y1, y2⟩ := box_cells HW.out.2.2
      have e1 := (Array.getElem?_eq_some_iff.1 HW.out.2.2).1
      by_cases hlt : k < ns.length
      · have hlti : (k : Int) < (ns.length : Int) := by omega
        obtain ⟨n, hnk⟩ : ∃ n, ns[k]? = some n := ⟨_, List.getElem?_eq_getElem hlt⟩
        obtain ⟨b1, o1, fa, ra, va, fc, rc, vc, rfl, c0, c1, c2, c3, c4, hat⟩ := (HH.out.1.below HW.out.1) k n hnk
        have hat2 : ∀ W, Below w.heap.size (wr.alloc (.cells #[.slice fa n.facts.length fc, .slice ra n.ranks.length rc, .bool n.reached, .int .i64 n.rank, .slice va n.vals.length vc] 50)) W → NdAt W fa ra va fc rc vc n := by
          intro W hbW
          have hb2 := (HW.out.1.alloc HW.out.1.size (.cells #[.slice fa n.facts.length fc, .slice ra n.ranks.length rc, .bool n.reached, .int .i64 n.rank, .slice va n.vals.length vc] 50)).trans hbW
          obtain ⟨b2, o2, fa2, ra2, va2, fc2, rc2, vc2, h0, d0, d1, d2, d3, d4, hat3⟩ := (HH.out.1.below hb2) k n hnk
          cases h0
          obtain ⟨b3, o3, fa3, ra3, va3, fc3, rc3, vc3, h0, d0', d1', d2', d3', d4', hat4⟩ := HH.out.1 k n hnk
          cases h0
          have q0 := (cell_stays d0' HW.out.1).symm.trans c0
          have q1 := (cell_stays d1' HW.out.1).symm.trans c1
          have q4 := (cell_stays d4' HW.out.1).symm.trans c4
          simp at q0 q1 q4
          obtain ⟨rfl, rfl⟩ := q0
          obtain ⟨rfl, rfl⟩ := q1
          obtain ⟨rfl, rfl⟩ := q4
          exact hat4.below hb2
        have HN := (show Hid _ from And.intro hnk (And.intro hat2 (And.intro (HH.out.2 n (List.mem_of_getElem? hnk)) (HK.out.2 n (List.mem_of_getElem? hnk)))))
        have hql : q.length ≤ 60000 := HL.out.1
        clear hnk hat hat2
        by_cases hbig : 60000 < (q ++ nodeB pn gn n).length
        · have hbi : 60000 < ((q.length : Nat) : Int) + (((nodeB pn gn n).length : Nat) : Int) := by simp only [List.length_append] at hbig; omega
          have HR : Hid (encR ⟨pn, gn, ns⟩ = (⟨#[]⟩, 5)) := by
            show _ = _
            have h1 := congrArg List.length HQ.out
            rw [flat_drop (nodeB pn gn) ns k n HN.out.1] at h1
            have h2 : ¬ (encB ⟨pn, gn, ns⟩).length ≤ 60000 := by simp only [List.length_append] at h1 hbig; omega
            simp [encR, enc, h2]
          clear hbig
          go_wp2_with (go_at_call 38; refine (node_any w.heap.size (sb + 1 + 1) q pn gn fa ra va fc rc vc n _ (HW.out.2.1.alloc _) HN.out.2.1 HN.out.2.2.1 HN.out.2.2.2 (by omega)).mono ?_; rintro e W2 ⟨rfl, h2⟩; obtain ⟨_, v2, hbk, hown, _⟩ := h2.wr; obtain ⟨a2, cp2, rfl⟩ := sl_of_own hown; obtain ⟨z1, z2⟩ := box_cells hbk; have H2 := (show Hid _ from h2); clear h2 hbk hown)
          go_ret2
          rw [HR.out]
          exact ⟨rfl, (HW.out.1.alloc HW.out.1.size _).trans H2.out.below⟩
        · have hbi : ¬ 60000 < ((q.length : Nat) : Int) + (((nodeB pn gn n).length : Nat) : Int) := by simp only [List.length_append] at hbig; omega
          have HR : Hid ((q ++ nodeB pn gn n).length ≤ 60000) := by show _ ≤ _; omega
          clear hbig
          go_wp2_with (go_at_call 38; refine (node_any w.heap.size (sb + 1 + 1) q pn gn fa ra va fc rc vc n _ (HW.out.2.1.alloc _) HN.out.2.1 HN.out.2.2.1 HN.out.2.2.2 (by omega)).mono ?_; rintro e W2 ⟨rfl, h2⟩; obtain ⟨_, v2, hbk, hown, _⟩ := h2.wr; obtain ⟨a2, cp2, rfl⟩ := sl_of_own hown; obtain ⟨z1, z2⟩ := box_cells hbk; have H2 := (show Hid _ from h2); clear h2 hbk hown)
          refine ⟨⟨k + 1, q ++ nodeB pn gn n, by omega, by go_num, ?_, ⟨HR.out, by have := HL.out.2; simp [this]⟩, (HW.out.1.alloc HW.out.1.size _).trans H2.out.below, H2.out.wr, H2.out.box2 ((Below.heap_alloc _ _ _ e1).trans HW.out.2.2) (by omega) (by decide)⟩, by simp [intOf]; omega⟩
          show _ = _
          rw [← HQ.out, flat_drop (nodeB pn gn) ns k n HN.out.1]
          simp
      · obtain rfl : k = ns.length := by omega
        have hlti : ¬ (ns.length : Int) < (ns.length : Int) := by omega
        have hq := HQ.out
        rw [List.drop_length] at hq
        simp only [List.flatMap_nil, List.append_nil] at hq
        subst hq
        obtain ⟨_, v2, hbk, hown, _⟩ := HW.out.2.1
        obtain ⟨a2, cp2, rfl, kc⟩ := conv_back hown HL.out.2
        obtain ⟨z1, z2⟩ := box_cells hbk
        have HR : Hid (encR ⟨pn, gn, ns⟩ = (⟨(encB ⟨pn, gn, ns⟩).toArray⟩, 0)) := by
          show _ = _
          simp [encR, enc, HK.out.1, HL.out.1]
        clear hbk hown
        go_wp2_with fail
        go_ret2
        rw [HR.out]
        exact ⟨rfl, HW.out.1⟩
end Go.Proofs.Ytmipbiligijcpaa
