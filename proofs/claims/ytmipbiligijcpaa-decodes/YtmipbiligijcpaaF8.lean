/- The document's Decode. -/
import Derived.Test.YtmipbiligijcpaaF7
import Derived.Test.YtmipbiligijcpaaO3
import Derived.Test.YtmipbiligijcpaaJ3
import Derived.Test.YtmipbiligijcpaaN15
namespace Go.Proofs.Ytmipbiligijcpaa
set_option linter.unusedVariables false
set_option linter.unusedSimpArgs false
open Go.RowKit Go.Proofs Go.Maps

/-- all that is known while a certificate is read -/
structure CSt (W w : World) (s : ByteArray) (p g : Int) (a : Nat) (b : Bool) (na : Option Addr) (nc : Nat) (cl : List N5) : Prop where
  res : W.heap[w.heap.size]? = some (.cells #[.int .i64 0, .int .i64 0, .slice none 0 0] 24 (0, 0))
  box : W.heap[w.heap.size + 1]? = some (.cells #[.int .i64 p, .int .i64 g, .slice na cl.length nc] 24 (0, 0))
  rd : DRd W (w.heap.size + 2) s a b
  bel : Below w.heap.size w W
  row : W.ownsRow (w.heap.size + 3) 50 5 (.slice na cl.length nc) cl.length (nRow cl)
  own : ∀ x ∈ cl, NOwn W (w.heap.size + 3) x ∧ NdIn x.n
theorem CSt.lt {W w : World} {s : ByteArray} {p g : Int} {a : Nat} {b : Bool} {na : Option Addr} {nc : Nat} {cl : List N5} (h : CSt W w s p g a b na nc cl) : w.heap.size + 3 ≤ W.heap.size := (Array.getElem?_eq_some_iff.1 h.rd).1
theorem NOwn.off {W W' : World} {B q : Nat} {x : N5} (h : NOwn W B x) (hg : W.grownBy W' (some q)) (hq : q < B) : NOwn W' B x :=
  ⟨h.f.kept hg (own_lt_ne h.f hq), h.r.kept hg (own_lt_ne h.r hq), h.v.kept hg (own_lt_ne h.v hq), h.fn, h.rn, h.vn⟩
theorem CSt.call {W W' w : World} {s : ByteArray} {p g : Int} {a a' : Nat} {b b' : Bool} {na : Option Addr} {nc : Nat} {cl : List N5} (h : CSt W w s p g a b na nc cl) (hd : DRd W' (w.heap.size + 2) s a' b') (hg : W.grownBy W' (some (w.heap.size + 2))) : CSt W' w s p g a' b' na nc cl :=
  ⟨box_kept h.res hg (by omega), box_kept h.box hg (by omega), hd, h.bel.grown hg h.bel.size (fun k hk => by cases hk; omega), h.row.kept hg (own_lt_ne h.row (by omega)), fun x hx => ⟨(h.own x hx).1.off hg (by omega), (h.own x hx).2⟩⟩
theorem CSt.alloc {W w : World} {s : ByteArray} {p g : Int} {a : Nat} {b : Bool} {na : Option Addr} {nc : Nat} {cl : List N5} (h : CSt W w s p g a b na nc cl) (o : Obj) : CSt (W.alloc o) w s p g a b na nc cl := by
  have hz := h.lt
  have key : ∀ (k : Nat) (cs : Array Value) (t : TypeId), W.heap[k]? = some (Obj.cells cs t (0, 0)) → (W.alloc o).heap[k]? = some (Obj.cells cs t (0, 0)) := fun k cs t hk => (Below.heap_alloc _ _ _ (Array.getElem?_eq_some_iff.1 hk).1).trans hk
  exact ⟨key _ _ _ h.res, key _ _ _ h.box, key _ _ _ h.rd, h.bel.alloc h.bel.size o, h.row.alloc o, fun x hx => ⟨(h.own x hx).1.below (below1 _ _), (h.own x hx).2⟩⟩
theorem CSt.grew {W W' w : World} {s : ByteArray} {p g : Int} {a : Nat} {b : Bool} {na : Option Addr} {nc : Nat} {cl : List N5} {o : Obj} (h : CSt W w s p g a b na nc cl) (hg : (W.alloc o).grownBy W' (Value.slice na cl.length nc).ownBlock) : W'.heap[w.heap.size]? = W.heap[w.heap.size]? ∧ W'.heap[w.heap.size + 1]? = W.heap[w.heap.size + 1]? ∧ W'.heap[w.heap.size + 2]? = W.heap[w.heap.size + 2]? ∧ Below w.heap.size w W' := by
  have hz := h.lt
  have hge := own_row_ge h.row
  have key : ∀ k, k < w.heap.size + 3 → W'.heap[k]? = W.heap[k]? := by
    intro k hk
    refine (hg.block k (by simp; omega) ?_).trans (Below.heap_alloc _ _ _ (by omega))
    intro e
    have := hge k e.symm
    omega
  exact ⟨key _ (by omega), key _ (by omega), key _ (by omega), (h.bel.alloc h.bel.size o).grown hg (by simp; omega) (fun k hk => by have := hge k hk; omega)⟩
theorem CSt.app {W W' w : World} {s : ByteArray} {p g : Int} {a : Nat} {b : Bool} {na a9 : Option Addr} {nc c9 : Nat} {cl : List N5} {x : N5} {o : Obj} (h : CSt W w s p g a b na nc cl) (hx : NOwn W (w.heap.size + 3) x) (hi : NdIn x.n)
    (ho : W'.ownsRow (w.heap.size + 3) 50 5 (.slice a9 (cl.length + 1) c9) (cl.length + 1) (nRow cl ++ nCells x)) (hg : (W.alloc o).grownBy W' (Value.slice na cl.length nc).ownBlock) :
    CSt (W'.setCell ⟨w.heap.size + 1, 2, none⟩ (.slice a9 (cl.length + 1) c9)) w s p g a b a9 c9 (cl ++ [x]) := by
  obtain ⟨k0, k1, k2, kb⟩ := h.grew hg
  have hrow : ∀ k, (Value.slice na cl.length nc).ownBlock = some k → ∃ cur f, (W.alloc o).heap[k]? = some (.cells cur 50 f) := own_cells (h.row.alloc o)
  have hg2 := grown_self W' (w.heap.size + 1) 2 (.slice a9 (cl.length + 1) c9)
  have hz := h.lt
  refine ⟨(Below.heap_setCell _ _ _ _ (by show w.heap.size ≠ w.heap.size + 1; omega)).trans (k0.trans h.res), ?_, (Below.heap_setCell _ _ _ _ (by show w.heap.size + 2 ≠ w.heap.size + 1; omega)).trans (k2.trans h.rd), kb.setCell (p := ⟨w.heap.size + 1, 2, none⟩) (by show w.heap.size ≤ w.heap.size + 1; omega) _, ?_, ?_⟩
  · rw [drd_set (k1.trans h.box)]
    simp
  · have := ho.kept hg2 (own_lt_ne ho (by omega))
    rw [List.length_append, List.length_singleton]
    simpa [nRow] using this
  · intro y hy
    rcases List.mem_append.1 hy with hy | hy
    · exact ⟨(((h.own y hy).1.below (below1 W o)).kept hg hrow).off hg2 (by omega), (h.own y hy).2⟩
    · simp at hy
      subst hy
      exact ⟨((hx.below (below1 W o)).kept hg hrow).off hg2 (by omega), hi⟩
theorem CSt.at {W w : World} {s : ByteArray} {p g : Int} {a : Nat} {b : Bool} {na : Option Addr} {nc : Nat} {cl : List N5} (h : CSt W w s p g a b na nc cl) : NodesAt W na (cl.map N5.n) := nodes_own h.row (fun x hx => (h.own x hx).1)
theorem CSt.ct {W w : World} {s : ByteArray} {p g : Int} {a : Nat} {b : Bool} {na : Option Addr} {nc : Nat} {cl : List N5} (h : CSt W w s p g a b na nc cl) (hp : I64 p) (hg : I64 g) (hl : cl.length ≤ 60) : CtIn ⟨p, g, cl.map N5.n⟩ :=
  ⟨hp, hg, (fun n hn => by simp at hn; obtain ⟨x, hx, rfl⟩ := hn; exact (h.own x hx).2), by simp only [List.length_map]; omega⟩
theorem DrK.stepM {s : ByteArray} {a a' : Nat} {b b' : Bool} {p g : Int} {v : Nd} (h : DrK s a b (dnode p g) v a' b') : DrK s a b (Go.Proofs.Ytmipbiligijcpaa.stepM p g ()) (v, ()) a' b' := by
  refine ⟨h.le, h.sz, ?_⟩
  unfold Go.Proofs.Ytmipbiligijcpaa.stepM
  rcases h.how with ⟨e1, e2, e3⟩ | ⟨e1, e2⟩
  · exact Or.inl ⟨e1, e2, by rw [e3]⟩
  · refine Or.inr ⟨e1, ?_⟩
    rcases e2 with e2 | e2
    · exact Or.inl e2
    · right; rw [e2]
/-- what the document's Decode answers -/
def DcD (W' : World) (s : ByteArray) (e : Ending) : Prop :=
  (∃ (c : Ct) (cl : List N5) (la : Option Addr) (lc : Nat), dec s.data.toList = some c ∧ c.nodes = cl.map N5.n ∧ e = .returned (.tuple #[.agg #[.int .i64 c.problem, .int .i64 c.grade, .slice la c.nodes.length lc], .int .i64 0]) ∧ W'.ownsRow 0 50 5 (.slice la c.nodes.length lc) cl.length (nRow cl) ∧ ∀ x ∈ cl, NOwn W' 0 x) ∨
  (dec s.data.toList = none ∧ e = .returned (.tuple #[.agg #[.int .i64 0, .int .i64 0, .slice none 0 0], .int .i64 5]))
theorem dec_none {s : ByteArray} (h : ∀ c, dec s.data.toList = some c → False) : dec s.data.toList = none := by
  cases hd : dec s.data.toList with
  | none => rfl
  | some c => exact (h c hd).elim
theorem dhead {s : ByteArray} (h5 : 5 ≤ s.size) (hp : (s.extract 0 3).toList = [87, 67, 1]) : s.data.toList = (87 : UInt8) :: 67 :: 1 :: (s[3]'(by omega)) :: (s[4]'(by omega)) :: s.data.toList.drop 5 := by
  have hl : s.data.toList.length = s.size := rfl
  have h1 : s.data.toList.take 3 = [87, 67, 1] := by
    have := hp
    rw [Lib.extract_toList] at this
    simpa using this
  have h3 := drop_split (s := s) (fr := 3) (a := 3) (Nat.le_refl _) (by omega)
  have h4 := drop_split (s := s) (fr := 4) (a := 4) (Nat.le_refl _) (by omega)
  simp only [Nat.sub_self, List.take_zero, List.nil_append] at h3 h4
  conv => lhs; rw [← List.take_append_drop 3 s.data.toList, h1, h3, h4]
  rfl
set_option maxHeartbeats 4000000 in
set_option maxRecDepth 100000 in
theorem ddecode_any (s : ByteArray) (w : World) :
    Calls Try.prog 17 #[.string s] w fun e W' => DcD W' s e ∧ Below w.heap.size w W' := by
  obtain ⟨i1, hi, hz0, hz1, hz2⟩ := info_parts infoNd
  have HI := (show Hid _ from And.intro hi (And.intro hz0 (And.intro hz1 hz2)))
  clear hi hz0 hz1 hz2
  by_cases hbig : 60000 < s.size
  · have hb2 : (60000 : Int) < (s.size : Int) := by omega
    have HN : Hid (dec s.data.toList = none) := dec_none (fun c hc => by
      obtain ⟨b, d, q, _, hl, _⟩ := ddec_inv hc
      have h1 : s.data.toList.length = s.size := rfl
      omega)
    go_enter Try.func17, Try.ntmps17
    go_wp2_with fail
    refine bodyPost_ret (v := .tuple #[.agg #[.int .i64 0, .int .i64 0, .slice none 0 0], .int .i64 5]) (by simp [results, Try.results17, go_sem]) rfl ?_
    exact ⟨Or.inr ⟨HN.out, rfl⟩, below2 _ _ _⟩
  · have hb2 : ¬ (60000 : Int) < (s.size : Int) := by omega
    by_cases h5 : s.size < 5
    · have h52 : (s.size : Int) < 5 := by omega
      have HN : Hid (dec s.data.toList = none) := dec_none (fun c hc => by
        obtain ⟨b, d, q, he, hl, _⟩ := ddec_inv hc
        have h1 : s.data.toList.length = s.size := rfl
        rw [he] at h1
        simp at h1
        omega)
      go_enter Try.func17, Try.ntmps17
      go_wp2_with fail
      refine bodyPost_ret (v := .tuple #[.agg #[.int .i64 0, .int .i64 0, .slice none 0 0], .int .i64 5]) (by simp [results, Try.results17, go_sem]) rfl ?_
      exact ⟨Or.inr ⟨HN.out, rfl⟩, below2 _ _ _⟩
    · have h52 : ¬ (s.size : Int) < 5 := by omega
      have hs3 : (3 : Int) ≤ (s.size : Int) := by omega
      have hi3 : 3 < s.size := by omega
      have hi4 : 4 < s.size := by omega
      have hj3 : (3 : Int) < (s.size : Int) := by omega
      have hj4 : (4 : Int) < (s.size : Int) := by omega
      obtain ⟨pb, hpb⟩ : ∃ pb, ((s.extract 0 3).toList == [87, 67, 1]) = pb := ⟨_, rfl⟩
      cases pb with
      | false =>
        have HN : Hid (dec s.data.toList = none) := dec_none (fun c hc => by
          obtain ⟨b, d, q, he, hl, _⟩ := ddec_inv hc
          rw [Lib.extract_toList, he] at hpb
          simp at hpb)
        go_enter Try.func17, Try.ntmps17
        go_wp2_with fail
        refine bodyPost_ret (v := .tuple #[.agg #[.int .i64 0, .int .i64 0, .slice none 0 0], .int .i64 5]) (by simp [results, Try.results17, go_sem]) rfl ?_
        exact ⟨Or.inr ⟨HN.out, rfl⟩, below2 _ _ _⟩
      | true =>
        have h5b : 5 ≤ s.size := by omega
        have hh := dhead h5b (by simpa using hpb)
        have HH : Hid (s.data.toList = (87 : UInt8) :: 67 :: 1 :: s[3] :: s[4] :: s.data.toList.drop 5) := hh
        clear hh
        have hb3 := UInt8.toNat_lt s[3]
        have hb4 := UInt8.toNat_lt s[4]
        by_cases hr : 1 ≤ s[3].toNat ∧ s[3].toNat ≤ 6 ∧ 1 ≤ s[4].toNat ∧ s[4].toNat ≤ 2
        · have g1 : ¬ (s[3].toNat : Int) < 1 := by omega
          have g2 : ¬ (6 : Int) < (s[3].toNat : Int) := by omega
          have g3 : ¬ (s[4].toNat : Int) < 1 := by omega
          have g4 : ¬ (2 : Int) < (s[4].toNat : Int) := by omega
          go_enter Try.func17, Try.ntmps17
          go_wp2_with fail
          all_goals try (exfalso; omega)
          obtain ⟨V0, hV0⟩ : ∃ V, V = (((w.alloc (.cells #[.int .i64 0, .int .i64 0, .slice none 0 0] 24)).alloc (.cells #[.int .i64 (s[3].toNat : Int), .int .i64 (s[4].toNat : Int), .slice none 0 0] 24)).alloc (.cells #[.string s, .int .i64 5, .bool false] 70)) := ⟨_, rfl⟩
          rw [← hV0]
          have H0 : Hid (CSt V0 w s (s[3].toNat : Int) (s[4].toNat : Int) 5 false none 0 []) := by
            rw [hV0]
            refine ⟨?_, ?_, ?_, below3 _ _ _ _, World.ownsRow_nil _ _ _ _, fun x hx => by cases hx⟩
            · rw [Below.heap_alloc _ _ _ (by simp; omega), Below.heap_alloc _ _ _ (by simp), heap_alloc_new]
            · rw [Below.heap_alloc _ _ _ (by simp)]
              exact (alloc2 w _ _).2
            · have := heap_alloc_new ((w.alloc (.cells #[.int .i64 0, .int .i64 0, .slice none 0 0] 24)).alloc (.cells #[.int .i64 (s[3].toNat : Int), .int .i64 (s[4].toNat : Int), .slice none 0 0] 24)) (.cells #[.string s, .int .i64 5, .bool false] 70)
              have e : ((w.alloc (.cells #[.int .i64 0, .int .i64 0, .slice none 0 0] 24)).alloc (.cells #[.int .i64 (s[3].toNat : Int), .int .i64 (s[4].toNat : Int), .slice none 0 0] 24)).heap.size = w.heap.size + 2 := by simp
              rw [e] at this
              exact this
          clear hV0
          --@main
          clear g1 g2 g3 g4
          refine (dmost_any (w.heap.size + 2) 5 60 s false V0 H0.out.rd (by omega) (by omega) (by omega)).mono ?_
          rintro e W1 ⟨k, a1, b1, rfl, hk, hk1, hd1, hg1⟩
          have H1 : Hid (CSt W1 w s (s[3].toNat : Int) (s[4].toNat : Int) a1 b1 none 0 []) := H0.out.call hd1 hg1
          have HK1 : Hid (DrK s 5 false (rsm ((60 : Nat) : Int)) k a1 b1) := hk1
          have hz1 := hk1.sz
          clear hd1 hg1 hk1 H0
          go_wp2_with fail
          go_loopw [7] (fun iv wr => ∃ (i : Nat) (na : Option Addr) (nc : Nat) (cl : List N5) (a2 : Nat) (b2 : Bool), i ≤ k ∧ iv = .int .i64 i ∧ Hid (cl.length = i ∧ DrK s a1 b1 (rlist (stepM (s[3].toNat : Int) (s[4].toNat : Int)) i ()) (cl.map N5.n, ()) a2 b2) ∧ Hid (CSt wr w s (s[3].toNat : Int) (s[4].toNat : Int) a2 b2 na nc cl)) (fun iv _ => k - (intOf iv).toNat)
          case atStart => exact ⟨0, none, 0, [], a1, b1, by omega, rfl, ⟨rfl, DrK.start b1 _ _ hz1⟩, H1.out⟩
          case round =>
            clear H1
            obtain ⟨i, na, nc, cl, a2, b2, hik, rfl, HX, HS⟩ := hrel
            obtain ⟨z1, z2⟩ := box_cells HS.out.rd
            obtain ⟨x1, x2⟩ := box_cells HS.out.box
            by_cases hlt3 : i < k
            · have hlti3 : (i : Int) < (k : Int) := by omega
              cases b2 with
              | false =>
                go_wp2_with fail
                clear z1 z2 x1 x2
                refine (dnode_any (s[3].toNat : Int) (s[4].toNat : Int) na cl.length nc (w.heap.size + 2) a2 s false wr HS.out.rd HX.out.2.sz (by omega)).mono ?_
                rintro e W2 ⟨x, a3, b3, rfl, hok, hin, hk3, hd3, hg3⟩
                have H2 : Hid (CSt W2 w s (s[3].toNat : Int) (s[4].toNat : Int) a3 b3 na nc cl) := HS.out.call hd3 hg3
                have H3 : Hid (NOwn W2 (w.heap.size + 3) x ∧ NdIn x.n ∧ DrK s a2 false (dnode (s[3].toNat : Int) (s[4].toNat : Int)) x.n a3 b3) := ⟨hok.own.mono HS.out.lt, hin, hk3⟩
                clear hd3 hg3 hk3 hok hin
                simp only [n5V]
                go_upto_region 14 with (fail)
                obtain ⟨V2, hV2⟩ : ∃ V, V = W2.alloc (.cells #[.slice x.fa x.n.facts.length x.fc, .slice x.ra x.n.ranks.length x.rc, .bool x.n.reached, .int .i64 x.n.rank, .slice x.va x.n.vals.length x.vc] 50) := ⟨_, rfl⟩
                rw [← hV2]
                have H4 : Hid (CSt V2 w s (s[3].toNat : Int) (s[4].toNat : Int) a3 b3 na nc cl ∧ NOwn V2 (w.heap.size + 3) x) := by rw [hV2]; exact ⟨H2.out.alloc _, H3.out.1.below (below1 _ _)⟩
                have hvb : V2.heap[W2.heap.size]? = some (.cells #[.slice x.fa x.n.facts.length x.fc, .slice x.ra x.n.ranks.length x.rc, .bool x.n.reached, .int .i64 x.n.rank, .slice x.va x.n.vals.length x.vc] 50 (0, 0)) := by rw [hV2]; exact heap_alloc_new _ _
                have hown : (V2.alloc (.cells #[.slice x.fa x.n.facts.length x.fc, .slice x.ra x.n.ranks.length x.rc, .bool x.n.reached, .int .i64 x.n.rank, .slice x.va x.n.vals.length x.vc] 50)).ownsRow (w.heap.size + 3) 50 5 (.slice na cl.length nc) cl.length (nRow cl) := H4.out.1.row.alloc _
                have hB : w.heap.size + 3 ≤ (V2.alloc (.cells #[.slice x.fa x.n.facts.length x.fc, .slice x.ra x.n.ranks.length x.rc, .bool x.n.reached, .int .i64 x.n.rank, .slice x.va x.n.vals.length x.vc] 50)).heap.size := by have := H4.out.1.lt; simp; omega
                have hM : cl.length + 1 ≤ maxLen ∧ (cl.length + 1) * 88 ≤ 140737488355328 := by have := HX.out.1; simp only [maxLen]; omega
                have hnews : ∀ (j : Nat) (u : Value), (nCells x)[j]? = some u → (V2.alloc (.cells #[.slice x.fa x.n.facts.length x.fc, .slice x.ra x.n.ranks.length x.rc, .bool x.n.reached, .int .i64 x.n.rank, .slice x.va x.n.vals.length x.vc] 50)).cell? ((⟨V2.heap.size, 0, none⟩ : Addr).add j) = some u := by
                  intro j u hj
                  rw [Addr.add_lit, Nat.zero_add, World.cell?_alloc_new]
                  simpa [nCells] using hj
                have HO := (show Hid _ from And.intro hown (And.intro hB (And.intro hM hnews)))
                have HA : Hid (∀ (a9 : Option Addr) (c9 : Nat) (W9 : World), W9.ownsRow (w.heap.size + 3) 50 5 (.slice a9 (cl.length + 1) c9) (cl.length + 1) (nRow cl ++ nCells x) → (V2.alloc (.cells #[.slice x.fa x.n.facts.length x.fc, .slice x.ra x.n.ranks.length x.rc, .bool x.n.reached, .int .i64 x.n.rank, .slice x.va x.n.vals.length x.vc] 50)).grownBy W9 (Value.slice na cl.length nc).ownBlock → W9.heap[w.heap.size + 1]? = some (.cells #[.int .i64 (s[3].toNat : Int), .int .i64 (s[4].toNat : Int), .slice na cl.length nc] 24 (0, 0)) ∧ CSt (W9.setCell ⟨w.heap.size + 1, 2, none⟩ (.slice a9 (cl.length + 1) c9)) w s (s[3].toNat : Int) (s[4].toNat : Int) a3 b3 a9 c9 (cl ++ [x])) := by
                  intro a9 c9 W9 o9 g9
                  exact ⟨(H4.out.1.grew g9).2.1.trans H4.out.1.box, H4.out.1.app H4.out.2 H3.out.2.1 o9 g9⟩
                obtain ⟨q1, q2⟩ := box_cells hvb
                obtain ⟨y1, y2⟩ := box_cells H4.out.1.box
                clear hown hB hM hvb hV2 hnews
                go_wp2_with (at_builtin; refine wpList_append_own_at _ rfl _ _ 22 rfl (w.heap.size + 3) 50 i1 (.agg #[.slice none 0 0, .slice none 0 0, .bool false, .int .i64 0, .slice none 0 0]) 5 88 Try.underlying22 HI.out.1 HI.out.2.1 HI.out.2.2.1 HI.out.2.2.2 rfl (by decide) (.slice na cl.length nc) cl.length (nRow cl) rfl HO.out.1 ⟨V2.heap.size, 0, none⟩ 1 1 (nCells x) rfl rfl HO.out.2.2.2 (by intro u hu; simp [nCells] at hu; rcases hu with rfl | rfl | rfl | rfl | rfl <;> rfl) HO.out.2.2.1.1 HO.out.2.2.1.2 HO.out.2.1 ?_; intro v9 W9 o9 g9 _ w9; obtain ⟨a9, c9, rfl⟩ := sl_of_own o9; have H8 := (show Hid _ from HA.out a9 c9 W9 o9 g9); clear y1 y2 q1 q2 o9 g9 w9; obtain ⟨y1, y2⟩ := box_cells H8.out.1)
                refine ⟨⟨i + 1, a9, c9, cl ++ [x], a3, b3, by omega, by go_num, ⟨by rw [List.length_append, HX.out.1]; rfl, ?_⟩, H8.out.2⟩, by simp [intOf]; omega⟩
                rw [List.map_append]
                exact HX.out.2.snoc H3.out.2.2.stepM
              | true =>
                have hdn : DrK s 5 false (dnodes (s[3].toNat : Int) (s[4].toNat : Int)) (cl.map N5.n) a2 true := HK1.out.bind ((HX.out.2.cut hik (cl.map N5.n, ())).bind (DrK.ret true _ HX.out.2.sz))
                have HDN : Hid (DrK s 5 false (dnodes (s[3].toNat : Int) (s[4].toNat : Int)) (cl.map N5.n) a2 true) := hdn
                clear hdn
                have hct : Hid (CtIn ⟨(s[3].toNat : Int), (s[4].toNat : Int), cl.map N5.n⟩) := HS.out.ct ⟨by omega, by omega⟩ ⟨by omega, by omega⟩ (by have := HX.out.1; omega)
                have hcall := formed_any na nc ⟨(s[3].toNat : Int), (s[4].toNat : Int), cl.map N5.n⟩ wr HS.out.at hct.out
                simp only [List.length_map] at hcall
                obtain ⟨ob, hO⟩ : ∃ ob, okC ⟨(s[3].toNat : Int), (s[4].toNat : Int), cl.map N5.n⟩ = ob := ⟨_, rfl⟩
                rw [hO] at hcall
                have HO : Hid (okC ⟨(s[3].toNat : Int), (s[4].toNat : Int), cl.map N5.n⟩ = ob) := hO
                have HC := (show Hid _ from hcall)
                clear hcall hO
                go_wp2_with fail
                refine Calls.mono HC.out ?_
                clear z1 z2 x1 x2
                rintro e W5 ⟨rfl, hb5⟩
                have f5 : Fr (fun _ => True) wr W5 := Fr.of_below hb5
                have hr5 := f5.box HS.out.res trivial
                have hc5 := f5.box HS.out.box trivial
                have hd5 := f5.box HS.out.rd trivial
                have HB5 : Hid (Below wr.heap.size wr W5) := hb5
                have H5 : Hid (NodesAt W5 na (cl.map N5.n) ∧ Below w.heap.size w W5 ∧ w.heap.size + 3 ≤ W5.heap.size) := ⟨HS.out.at.below hb5, below_trans HS.out.bel hb5, Nat.le_trans HS.out.lt hb5.size⟩
                obtain ⟨z1, z2⟩ := box_cells hd5
                obtain ⟨x1, x2⟩ := box_cells hc5
                obtain ⟨y1, y2⟩ := box_cells hr5
                clear f5 hb5 hr5 hc5 hd5
                have HN : Hid (dec s.data.toList = none) := dec_none (fun c hc => by
                  obtain ⟨b, d, q, he, _, hpp, hgg, hk, hok, hdn⟩ := ddec_inv hc
                  rw [HH.out] at he
                  simp only [List.cons.injEq, true_and] at he
                  obtain ⟨rfl, rfl, rfl⟩ := he
                  rcases HDN.out.how with ⟨h, _⟩ | ⟨_, h | h⟩
                  · cases h
                  · cases h
                  · rw [h] at hdn; cases hdn)
                go_wp2_with fail
                refine bodyPost_ret (v := .tuple #[.agg #[.int .i64 0, .int .i64 0, .slice none 0 0], .int .i64 5]) (by simp [results, Try.results17, go_sem, y1]) rfl ?_
                have fa := fr3 W5 w.heap.size (.int .i64 0) (.int .i64 0) (.slice none 0 0)
                exact ⟨Or.inr ⟨HN.out, rfl⟩, H5.out.2.1.trans (fa.below (by have := H5.out.2.2; omega) (fun k hk => by show k ≠ _; omega))⟩
            · have hlti3 : ¬ (i : Int) < (k : Int) := by omega
              obtain rfl : i = k := by omega
              have hdn : DrK s 5 false (dnodes (s[3].toNat : Int) (s[4].toNat : Int)) (cl.map N5.n) a2 b2 := HK1.out.bind (HX.out.2.bind (DrK.ret b2 _ HX.out.2.sz))
              have HDN : Hid (DrK s 5 false (dnodes (s[3].toNat : Int) (s[4].toNat : Int)) (cl.map N5.n) a2 b2) := hdn
              clear hdn
              have hct : Hid (CtIn ⟨(s[3].toNat : Int), (s[4].toNat : Int), cl.map N5.n⟩) := HS.out.ct ⟨by omega, by omega⟩ ⟨by omega, by omega⟩ (by have := HX.out.1; omega)
              have hcall := formed_any na nc ⟨(s[3].toNat : Int), (s[4].toNat : Int), cl.map N5.n⟩ wr HS.out.at hct.out
              simp only [List.length_map] at hcall
              obtain ⟨ob, hO⟩ : ∃ ob, okC ⟨(s[3].toNat : Int), (s[4].toNat : Int), cl.map N5.n⟩ = ob := ⟨_, rfl⟩
              rw [hO] at hcall
              have HO : Hid (okC ⟨(s[3].toNat : Int), (s[4].toNat : Int), cl.map N5.n⟩ = ob) := hO
              have HC := (show Hid _ from hcall)
              clear hcall hO
              go_wp2_with fail
              refine Calls.mono HC.out ?_
              clear z1 z2 x1 x2
              rintro e W5 ⟨rfl, hb5⟩
              have f5 : Fr (fun _ => True) wr W5 := Fr.of_below hb5
              have hr5 := f5.box HS.out.res trivial
              have hc5 := f5.box HS.out.box trivial
              have hd5 := f5.box HS.out.rd trivial
              have HB5 : Hid (Below wr.heap.size wr W5) := hb5
              have H5 : Hid (NodesAt W5 na (cl.map N5.n) ∧ Below w.heap.size w W5 ∧ w.heap.size + 3 ≤ W5.heap.size) := ⟨HS.out.at.below hb5, below_trans HS.out.bel hb5, Nat.le_trans HS.out.lt hb5.size⟩
              obtain ⟨z1, z2⟩ := box_cells hd5
              obtain ⟨x1, x2⟩ := box_cells hc5
              obtain ⟨y1, y2⟩ := box_cells hr5
              clear f5 hb5 hr5 hc5 hd5
              have hsz : s.data.toList.length = s.size := rfl
              cases b2 with
              | true =>
                have HN : Hid (dec s.data.toList = none) := dec_none (fun c hc => by
                  obtain ⟨b, d, q, he, _, hpp, hgg, hk, hok, hdn⟩ := ddec_inv hc
                  rw [HH.out] at he
                  simp only [List.cons.injEq, true_and] at he
                  obtain ⟨rfl, rfl, rfl⟩ := he
                  rcases HDN.out.how with ⟨h, _⟩ | ⟨_, h | h⟩
                  · cases h
                  · cases h
                  · rw [h] at hdn; cases hdn)
                go_wp2_with fail
                refine bodyPost_ret (v := .tuple #[.agg #[.int .i64 0, .int .i64 0, .slice none 0 0], .int .i64 5]) (by simp [results, Try.results17, go_sem, y1]) rfl ?_
                have fa := fr3 W5 w.heap.size (.int .i64 0) (.int .i64 0) (.slice none 0 0)
                exact ⟨Or.inr ⟨HN.out, rfl⟩, H5.out.2.1.trans (fa.below (by have := H5.out.2.2; omega) (fun k hk => by show k ≠ _; omega))⟩
              | false =>
                have hpar : Hid (dnodes (s[3].toNat : Int) (s[4].toNat : Int) (s.data.toList.drop 5) = some (cl.map N5.n, s.data.toList.drop a2)) := by
                  rcases HDN.out.how with ⟨_, _, h⟩ | ⟨h, _⟩
                  · exact h
                  · cases h
                have hsz2 := HDN.out.sz
                by_cases hend : a2 = s.size
                · have hei : ((a2 : Int) != (s.size : Int)) = false := by rw [hend]; simp
                  have hnil : s.data.toList.drop a2 = [] := List.drop_of_length_le (by omega)
                  cases ob with
                  | true =>
                    have HN : Hid (dec s.data.toList = some ⟨(s[3].toNat : Int), (s[4].toNat : Int), cl.map N5.n⟩) := ddec_yes HH.out (by omega) (by rw [hpar.out, hnil]) HO.out hct.out
                    have HEN : Hid (a2 = s.size) := hend
                    clear hend hnil
                    go_wp2_with fail
                    refine bodyPost_ret (v := .tuple #[.agg #[.int .i64 (s[3].toNat : Int), .int .i64 (s[4].toNat : Int), .slice na cl.length nc], .int .i64 0]) (by simp [results, Try.results17, go_sem, y1]) rfl ?_
                    have fa := fr3 W5 w.heap.size (.int .i64 (s[3].toNat : Int)) (.int .i64 (s[4].toNat : Int)) (.slice na cl.length nc)
                    have r5 := HS.out.row
                    have f5 : Fr (fun j => j ≠ w.heap.size) wr _ := Fr.trans (Fr.of_below (P := fun j => j ≠ w.heap.size) HB5.out) fa (fun _ _ h => h)
                    have H6 := own_mono (f5.own r5 (fun k hk => by have := (r5.lt k hk).1; show k ≠ _; omega)) (Nat.zero_le _)
                    have H7 : ∀ x ∈ cl, NOwn (((W5.setCell ⟨w.heap.size, 0, none⟩ (.int .i64 (s[3].toNat : Int))).setCell ⟨w.heap.size, 1, none⟩ (.int .i64 (s[4].toNat : Int))).setCell ⟨w.heap.size, 2, none⟩ (.slice na cl.length nc)) 0 x := fun x hx => by
                      have hx1 := (HS.out.own x hx).1
                      exact NOwn.mono ⟨f5.own hx1.f (fun k hk => by have := (hx1.f.lt k hk).1; show k ≠ _; omega), f5.own hx1.r (fun k hk => by have := (hx1.r.lt k hk).1; show k ≠ _; omega), f5.own hx1.v (fun k hk => by have := (hx1.v.lt k hk).1; show k ≠ _; omega), hx1.fn, hx1.rn, hx1.vn⟩ (Nat.zero_le _)
                    exact ⟨Or.inl ⟨⟨(s[3].toNat : Int), (s[4].toNat : Int), cl.map N5.n⟩, cl, na, nc, HN.out, rfl, by simp, by simpa using H6, H7⟩, H5.out.2.1.trans (fa.below (by have := H5.out.2.2; omega) (fun k hk => by show k ≠ _; omega))⟩
                  | false =>
                    have HN : Hid (dec s.data.toList = none) := dec_none (fun c hc => by
                      obtain ⟨b, d, q, he, _, hpp, hgg, hk, hok, hdn⟩ := ddec_inv hc
                      rw [HH.out] at he
                      simp only [List.cons.injEq, true_and] at he
                      obtain ⟨rfl, rfl, rfl⟩ := he
                      rw [hpar.out] at hdn
                      simp at hdn
                      obtain ⟨p0, g0, n0⟩ := c
                      simp only at hpp hgg hdn
                      have := HO.out
                      rw [hdn.1, ← hpp, ← hgg, hok] at this
                      cases this)
                    clear hend hnil
                    go_wp2_with fail
                    refine bodyPost_ret (v := .tuple #[.agg #[.int .i64 0, .int .i64 0, .slice none 0 0], .int .i64 5]) (by simp [results, Try.results17, go_sem, y1]) rfl ?_
                    have fa := fr3 W5 w.heap.size (.int .i64 0) (.int .i64 0) (.slice none 0 0)
                    exact ⟨Or.inr ⟨HN.out, rfl⟩, H5.out.2.1.trans (fa.below (by have := H5.out.2.2; omega) (fun k hk => by show k ≠ _; omega))⟩
                · have hei : ((a2 : Int) != (s.size : Int)) = true := by rw [bne_iff_ne]; omega
                  have HN : Hid (dec s.data.toList = none) := dec_none (fun c hc => by
                    obtain ⟨b, d, q, he, _, hpp, hgg, hk, hok, hdn⟩ := ddec_inv hc
                    rw [HH.out] at he
                    simp only [List.cons.injEq, true_and] at he
                    obtain ⟨rfl, rfl, rfl⟩ := he
                    rw [hpar.out] at hdn
                    simp at hdn
                    omega)
                  go_wp2_with fail
                  refine bodyPost_ret (v := .tuple #[.agg #[.int .i64 0, .int .i64 0, .slice none 0 0], .int .i64 5]) (by simp [results, Try.results17, go_sem, y1]) rfl ?_
                  have fa := fr3 W5 w.heap.size (.int .i64 0) (.int .i64 0) (.slice none 0 0)
                  exact ⟨Or.inr ⟨HN.out, rfl⟩, H5.out.2.1.trans (fa.below (by have := H5.out.2.2; omega) (fun k hk => by show k ≠ _; omega))⟩
        · have HN : Hid (dec s.data.toList = none) := dec_none (fun c hc => by
            obtain ⟨b, d, q, he, _, _, _, hk, _⟩ := ddec_inv hc
            rw [HH.out] at he
            simp only [List.cons.injEq, true_and] at he
            obtain ⟨rfl, rfl, _⟩ := he
            simp only [known, Bool.and_eq_true, Bool.or_eq_true, decide_eq_true_eq] at hk
            apply hr
            refine ⟨by omega, by omega, ?_, ?_⟩
            · rcases hk.2 with h | h
              · omega
              · have := h.1; omega
            · rcases hk.2 with h | h
              · omega
              · have := h.1; omega)
          go_enter Try.func17, Try.ntmps17
          go_wp2_with fail
          all_goals first
            | (exfalso; omega)
            | (refine bodyPost_ret (v := .tuple #[.agg #[.int .i64 0, .int .i64 0, .slice none 0 0], .int .i64 5]) (by simp [results, Try.results17, go_sem]) rfl ?_; exact ⟨Or.inr ⟨HN.out, rfl⟩, below2 _ _ _⟩)
end Go.Proofs.Ytmipbiligijcpaa
