/- The document's answer: its program's variables. -/
import Derived.Test.YtmipbiligijcpaaGreatDoorR5
import Derived.Test.YtmipbiligijcpaaGreatDoorR1
import Derived.Maps.AppendAt
namespace Go.Proofs.YtmipbiligijcpaaGreatDoor
set_option linter.unusedVariables false
set_option linter.unusedSimpArgs false
open Go.RowKit Go.Proofs Go.Maps

theorem rconst_none (s : ByteArray) (w : World) (h0 : s.size = 0) :
    Calls Tryz.prog 246 #[.string s] w fun e w' => e = .returned (.tuple #[.int .i64 (cstV s.data.toList), .bool (cstB s.data.toList)]) ∧ w' = w := by
  have hl : s.data.toList = [] := List.length_eq_zero_iff.1 h0
  have HN : Hid (Wm.cstL s.data.toList = none) := by show _ = _; rw [hl]; rfl
  have e0 : ((s.size : Int) == 0) = true := by rw [beq_iff_eq]; omega
  have l0 : (s.size : Int) ≤ 0 := by omega
  have d0 : decide (0 < (s.size : Int)) = false := by rw [decide_eq_false_iff_not]; omega
  clear h0 hl
  go_enter Tryz.func246, Tryz.ntmps246
  go_wp2
  go_ret2
  exact ⟨ret_ib (by simp [cstV, HN.out]) (by simp [cstB, HN.out]), rfl⟩
theorem rconst_any (s : ByteArray) (w : World) (hs : s.size ≤ 3000) :
    Calls Tryz.prog 246 #[.string s] w fun e w' => e = .returned (.tuple #[.int .i64 (cstV s.data.toList), .bool (cstB s.data.toList)]) ∧ w' = w := by
  by_cases h0 : s.size = 0
  · exact rconst_none s w h0
  · cases h : ((s[0].toNat : Int) == 45) with
    | true => exact rconst_neg s w hs (by omega) h
    | false => exact rconst_pos s w hs (by omega) h

def strOf (l : Nam) : Value := .string ⟨l.toArray⟩
/-- block pb is the document's program: its variables vs lie in block vb (none: there are none) -/
structure Rp (w : World) (pb B : Nat) (nv xv : Value) (vs : List Nam) (vb : Option Nat) : Prop where
  box : ∃ vv, w.heap[pb]? = some (.cells #[nv, vv, xv] 107 (0, 0)) ∧ w.ownsRow B 9 1 vv vs.length (vs.map strOf) ∧ vv.ownBlock = vb
  nodup : vs.Nodup
/-- what may have turned: the program's block, its variables' row -/
structure RF (pb : Nat) (vb : Option Nat) (w w' : World) : Prop where
  os : w'.os = w.os
  tape : w'.tape = w.tape
  output : w'.output = w.output
  size : w.heap.size ≤ w'.heap.size
  block : ∀ k, k < w.heap.size → k ≠ pb → some k ≠ vb → w'.heap[k]? = w.heap[k]?
def newer (w : World) (vb vb' : Option Nat) : Prop := vb' = vb ∨ ∃ k, vb' = some k ∧ w.heap.size ≤ k
theorem RF.refl (pb : Nat) (vb : Option Nat) (w : World) : RF pb vb w w := ⟨rfl, rfl, rfl, Nat.le_refl _, fun _ _ _ _ => rfl⟩
theorem RF.trans {pb : Nat} {vb vb' : Option Nat} {u v w : World} (h : RF pb vb u v) (hn : newer u vb vb') (k : RF pb vb' v w) : RF pb vb u w := by
  refine ⟨k.os.trans h.os, k.tape.trans h.tape, k.output.trans h.output, Nat.le_trans h.size k.size, fun j hj h1 h2 => ?_⟩
  refine (k.block j (Nat.lt_of_lt_of_le hj h.size) h1 ?_).trans (h.block j hj h1 h2)
  rcases hn with rfl | ⟨q, rfl, hq⟩
  · exact h2
  · simp; omega
theorem newer.trans {u v : World} {a b c : Option Nat} (h : newer u a b) (hs : u.heap.size ≤ v.heap.size) (k : newer v b c) : newer u a c := by
  rcases k with rfl | ⟨q, rfl, hq⟩
  · exact h
  · exact Or.inr ⟨q, rfl, by omega⟩
theorem RF.of_below {pb : Nat} {vb : Option Nat} {w w' : World} (h : Below w.heap.size w w') : RF pb vb w w' := ⟨h.os, h.tape, h.output, h.size, fun k hk _ _ => h.block k hk⟩
theorem RF.alloc {pb : Nat} {vb : Option Nat} (w : World) (o : Obj) : RF pb vb w (w.alloc o) := RF.of_below ((Below.refl _ _).alloc (Nat.le_refl _) _)
theorem RF.set {pb : Nat} {vb : Option Nat} {u w : World} (h : RF pb vb u w) {a : Addr} (ha : u.heap.size ≤ a.block) (v : Value) : RF pb vb u (w.setCell a v) :=
  ⟨h.os, h.tape, h.output, by simpa [World.setCell] using h.size, fun k hk h1 h2 => (Below.heap_setCell _ _ _ _ (by omega)).trans (h.block k hk h1 h2)⟩
theorem RF.of_alloc {pb : Nat} {vb : Option Nat} {w w' : World} {o : Obj} (h : RF pb vb (w.alloc o) w') : RF pb vb w w' := (RF.alloc w o).trans (Or.inl rfl) h
theorem Rp.lt {w : World} {pb B : Nat} {nv xv : Value} {vs : List Nam} {vb : Option Nat} (h : Rp w pb B nv xv vs vb) : pb < w.heap.size := by
  obtain ⟨vv, hb, _⟩ := h.box
  exact (Array.getElem?_eq_some_iff.1 hb).1
theorem Rp.vlt {w : World} {pb B : Nat} {nv xv : Value} {vs : List Nam} {vb : Option Nat} (h : Rp w pb B nv xv vs vb) : ∀ k, vb = some k → B ≤ k ∧ k < w.heap.size := by
  obtain ⟨vv, _, ho, rfl⟩ := h.box
  exact fun k hk => ho.lt k hk
theorem Rp.of_blocks {w w' : World} {pb B : Nat} {nv xv : Value} {vs : List Nam} {vb : Option Nat} (h : Rp w pb B nv xv vs vb) (h1 : w'.heap[pb]? = w.heap[pb]?) (h2 : ∀ k, vb = some k → w'.heap[k]? = w.heap[k]?) : Rp w' pb B nv xv vs vb := by
  obtain ⟨vv, hb, ho, hv⟩ := h.box
  refine ⟨⟨vv, h1.trans hb, ⟨ho.1, ?_⟩, hv⟩, h.nodup⟩
  rcases ho.2 with a | ⟨g, cap, cur, e, c1, c2, c3⟩
  · exact Or.inl a
  · refine Or.inr ⟨g, cap, cur, e, c1, (h2 g ?_).trans c2, c3⟩
    rw [← hv, e]; rfl
theorem Rp.below {w w' : World} {pb B : Nat} {nv xv : Value} {vs : List Nam} {vb : Option Nat} (h : Rp w pb B nv xv vs vb) (hb : Below w.heap.size w w') : Rp w' pb B nv xv vs vb :=
  h.of_blocks (hb.block pb h.lt) (fun k hk => hb.block k (h.vlt k hk).2)
theorem Rp.alloc {w : World} {pb B : Nat} {nv xv : Value} {vs : List Nam} {vb : Option Nat} (h : Rp w pb B nv xv vs vb) (o : Obj) : Rp (w.alloc o) pb B nv xv vs vb := h.below ((Below.refl _ _).alloc (Nat.le_refl _) _)
theorem Rp.set {w : World} {pb B : Nat} {nv xv : Value} {vs : List Nam} {vb : Option Nat} (h : Rp w pb B nv xv vs vb) {a : Addr} (h1 : a.block ≠ pb) (h2 : some a.block ≠ vb) (v : Value) : Rp (w.setCell a v) pb B nv xv vs vb :=
  h.of_blocks (Below.heap_setCell _ _ _ _ (Ne.symm h1)) (fun k hk => Below.heap_setCell _ _ _ _ (fun e => h2 (by rw [hk, e])))
theorem Ws.rf {w w' : World} {pb B g off : Nat} {nv xv : Value} {vs : List Nam} {vb : Option Nat} {ws : List ByteArray} (h : Ws w g off ws) (hp : Rp w pb B nv xv vs vb) (hv : some g ≠ vb) (hf : RF pb vb w w') : Ws w' g off ws := by
  refine h.of_block (hf.block g h.lt ?_ hv)
  rintro rfl
  obtain ⟨vv, hb, _⟩ := hp.box
  obtain ⟨cur, hc, _⟩ := h
  rw [hc] at hb
  simp at hb
theorem newer.ne {w : World} {vb vb' : Option Nat} {g : Nat} (h : newer w vb vb') (hg : g < w.heap.size) (hv : some g ≠ vb) : some g ≠ vb' := by
  rcases h with rfl | ⟨q, rfl, hq⟩
  · exact hv
  · simp; omega

theorem str_eq (a : ByteArray) (l : Nam) : (a.toList == (ByteArray.mk l.toArray).toList) = (a.data.toList == l) := by
  rw [ByteArray.toList_eq, ByteArray.toList_eq]
theorem idx_of {vs : List Nam} {x : Nam} {k : Nat} (hd : vs.Nodup) (hk : k < vs.length) (h2 : vs[k] = x) : vs.idxOf x = k := by
  have hm : x ∈ vs := h2 ▸ List.getElem_mem hk
  have h3 := List.idxOf_lt_length_of_mem hm
  have h4 := List.getElem_idxOf h3
  rw [List.nodup_iff_pairwise_ne, List.pairwise_iff_getElem] at hd
  rcases Nat.lt_trichotomy (vs.idxOf x) k with h | h | h
  · exact absurd (h4.trans h2.symm) (hd _ _ h3 hk h)
  · exact h
  · exact absurd (h2.trans h4.symm) (hd _ _ hk h3 h)
end Go.Proofs.YtmipbiligijcpaaGreatDoor
