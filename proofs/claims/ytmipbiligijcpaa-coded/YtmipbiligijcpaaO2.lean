/- What is read is a machine's certificate; and just the certificates' texts are read. -/
import Derived.Test.YtmipbiligijcpaaO1
namespace Go.Proofs.Ytmipbiligijcpaa
set_option linter.unusedVariables false
set_option linter.unusedSimpArgs false
open Go.RowKit Go.Proofs Go.Maps

theorem rsm_len {most : Int} {l r : List UInt8} {n : Nat} (h : rsm most l = some (n, r)) : r.length ≤ l.length ∧ n < 18446744073709551616 := by
  unfold rsm at h
  cases hc : rc l with
  | none => rw [hc] at h; cases h
  | some p =>
    obtain ⟨m, q⟩ := p
    rw [hc] at h
    simp only at h
    split at h
    · simp at h
      obtain ⟨rfl, rfl⟩ := h
      obtain ⟨h1, h2⟩ := (rc_iff _ _ _).1 hc
      rw [h1]
      exact ⟨by simp, h2⟩
    · cases h
theorem rnum_len {l r : List UInt8} {x : Int} (h : rnum l = some (x, r)) : r.length ≤ l.length ∧ I64 x := by
  obtain ⟨h1, h2⟩ := (rnum_iff _ _ _).1 h
  rw [h1]
  exact ⟨by simp, h2⟩
theorem i64_nat {n : Nat} (h : n ≤ 100000) : I64 (n : Int) := ⟨by omega, by omega⟩
theorem i64_3 {x : Int} (h : 0 ≤ x) (h2 : x ≤ 100) : I64 x := ⟨by omega, by omega⟩
theorem i64_0 : I64 0 := ⟨by omega, by omega⟩
theorem i64_w (x : Int) : I64 (wrap64 x) := ⟨by unfold wrap64; omega, by unfold wrap64; omega⟩
theorem rbnd_in {l r : List UInt8} {v : Vl} (h : rbnd l = some (v, r)) : r.length ≤ l.length ∧ VlIn v := by
  unfold rbnd at h
  cases hn : rnum l with
  | none => rw [hn] at h; cases h
  | some p =>
    obtain ⟨lo, q⟩ := p
    rw [hn] at h
    simp only at h
    cases hc : rc q with
    | none => rw [hc] at h; cases h
    | some p2 =>
      obtain ⟨n, q2⟩ := p2
      rw [hc] at h
      simp at h
      obtain ⟨rfl, rfl⟩ := h
      have h1 := rnum_len hn
      have h2 : q2.length ≤ q.length := by rw [((rc_iff _ _ _).1 hc).1]; simp
      exact ⟨by omega, i64_3 (x := 3) (by omega) (by omega), h1.2, i64_w _, i64_0, i64_0⟩
theorem rflag_len {l r : List UInt8} {f : Bool} (h : rflag l = some (f, r)) : r.length ≤ l.length := by
  rw [rflag_inv h]; simp
theorem rval_in {g : Int} {l r : List UInt8} {v : Vl} (h : rval g l = some (v, r)) : r.length ≤ l.length ∧ VlIn v := by
  unfold rval at h
  cases l with
  | nil => cases h
  | cons b q =>
    simp only at h
    by_cases h1 : b.toNat = 1
    · rw [if_pos h1] at h
      cases hn : rnum q with
      | none => rw [hn] at h; cases h
      | some pp =>
        obtain ⟨x, q2⟩ := pp
        rw [hn] at h
        simp at h
        obtain ⟨rfl, rfl⟩ := h
        have := rnum_len hn
        exact ⟨by simp; omega, i64_3 (x := 1) (by omega) (by omega), this.2, i64_0, i64_0, i64_0⟩
    · rw [if_neg h1] at h
      by_cases h2 : b.toNat = 2
      · rw [if_pos h2] at h
        by_cases hg : g = 1
        · rw [if_pos hg] at h
          cases hf : rflag q with
          | none => rw [hf] at h; cases h
          | some pp =>
            obtain ⟨f, q2⟩ := pp
            rw [hf] at h
            simp only at h
            have hfl := rflag_len hf
            cases f with
            | true =>
              simp only [if_true] at h
              unfold rearly at h
              cases hn : rnum q2 with
              | none => rw [hn] at h; cases h
              | some p3 =>
                obtain ⟨x, q3⟩ := p3
                rw [hn] at h
                simp only at h
                cases hs : rsm 100000 q3 with
                | none => rw [hs] at h; cases h
                | some p4 =>
                  obtain ⟨k, q4⟩ := p4
                  rw [hs] at h
                  simp at h
                  obtain ⟨rfl, rfl⟩ := h
                  have a1 := rnum_len hn
                  have a2 := rsm_len hs
                  have a3 := rsm_le hs
                  exact ⟨by simp; omega, i64_3 (x := 2) (by omega) (by omega), i64_0, i64_0, a1.2, ⟨by simp only; omega, by simp only; omega⟩⟩
            | false =>
              simp at h
              obtain ⟨rfl, rfl⟩ := h
              exact ⟨by simp; omega, i64_3 (x := 2) (by omega) (by omega), i64_0, i64_0, i64_0, i64_0⟩
        · rw [if_neg hg] at h
          simp at h
          obtain ⟨rfl, rfl⟩ := h
          exact ⟨by simp, i64_3 (x := 2) (by omega) (by omega), i64_0, i64_0, i64_0, i64_0⟩
      · rw [if_neg h2] at h; cases h
theorem stepV_in {p g : Int} {u : Unit} {l r : List UInt8} {v : Vl} (h : stepV p g () l = some ((v, u), r)) : r.length ≤ l.length ∧ VlIn v := by
  unfold stepV at h
  by_cases h6 : p = 6
  · rw [if_pos h6] at h
    cases hb : rbnd l with
    | none => rw [hb] at h; cases h
    | some p4 =>
      obtain ⟨v2, q⟩ := p4
      rw [hb] at h
      simp at h
      obtain ⟨rfl, rfl⟩ := h
      exact rbnd_in hb
  · rw [if_neg h6] at h
    cases hb : rval g l with
    | none => rw [hb] at h; cases h
    | some p4 =>
      obtain ⟨v2, q⟩ := p4
      rw [hb] at h
      simp at h
      obtain ⟨rfl, rfl⟩ := h
      exact rval_in hb
theorem rlist_in {α : Type} (step : Unit → List UInt8 → Option ((α × Unit) × List UInt8)) (P : α → Prop) (h : ∀ l x u r, l.length ≤ 60000 → step () l = some ((x, u), r) → r.length ≤ l.length ∧ P x) : ∀ (n : Nat) (l : List UInt8) (xs : List α) (u : Unit) (r : List UInt8), l.length ≤ 60000 → rlist step n () l = some ((xs, u), r) → r.length ≤ l.length ∧ ∀ x ∈ xs, P x
  | 0, l, xs, u, r, hl, hr => by
    simp [rlist] at hr
    obtain ⟨rfl, rfl⟩ := hr
    exact ⟨Nat.le_refl _, fun x hx => by cases hx⟩
  | n + 1, l, xs, u, r, hl, hr => by
    rw [rlist] at hr
    cases hs : step () l with
    | none => rw [hs] at hr; cases hr
    | some p =>
      obtain ⟨⟨x, u1⟩, q⟩ := p
      rw [hs] at hr
      simp only at hr
      cases hq : rlist step n u1 q with
      | none => rw [hq] at hr; cases hr
      | some p2 =>
        obtain ⟨⟨ys, u2⟩, q2⟩ := p2
        rw [hq] at hr
        simp at hr
        obtain ⟨rfl, rfl⟩ := hr
        have h1 := h l x u1 q hl hs
        have h2 := rlist_in step P h n q ys u2 q2 (by omega) hq
        refine ⟨by omega, ?_⟩
        intro y hy
        rcases List.mem_cons.1 hy with rfl | hy
        · exact h1.2
        · exact h2.2 y hy
theorem rises_in : ∀ (fs : List Int) (fl : Int), 0 ≤ fl → rises fl fs = true → ∀ f ∈ fs, I64 f
  | [], _, _, _, f, hf => by cases hf
  | a :: fs, fl, h0, h, f, hf => by
    simp only [rises, Bool.and_eq_true, decide_eq_true_eq] at h
    rcases List.mem_cons.1 hf with rfl | hf
    · exact ⟨by omega, by omega⟩
    · exact rises_in fs (a + 1) (by omega) h.2 f hf
theorem rset_in {g : Int} {l r : List UInt8} {n : Nd} (hl : l.length ≤ 60000) (h : rset g l = some (n, r)) : r.length ≤ l.length ∧ NdIn n := by
  obtain ⟨h1, h2, h3, h4⟩ := rset_sound h
  simp only [okSet, Bool.and_eq_true, decide_eq_true_eq, List.isEmpty_iff] at h2
  obtain ⟨⟨⟨⟨a1, a2⟩, a3⟩, a4⟩, a5⟩ := h2
  refine ⟨(by rw [h1]; simp), rises_in _ 0 (by omega) a4, ?_, (by rw [a2]; exact i64_0), (fun v hv => by rw [a3] at hv; cases hv), by omega, by omega, (by rw [a3]; simp)⟩
  intro f hf
  unfold okRanks at a5
  by_cases hg : g = 1
  · rw [if_pos hg] at a5
    simp only [Bool.and_eq_true] at a5
    have := List.all_eq_true.1 a5.2 f hf
    simp only [rk, Bool.and_eq_true, decide_eq_true_eq] at this
    exact ⟨by omega, by omega⟩
  · rw [if_neg hg] at a5
    simp only [List.isEmpty_iff] at a5
    rw [a5] at hf
    cases hf
theorem renv_in {p g : Int} {l r : List UInt8} {n : Nd} (hl : l.length ≤ 60000) (h : renv p g l = some (n, r)) : r.length ≤ l.length ∧ NdIn n := by
  unfold renv at h
  cases hk : rrank g l with
  | none => rw [hk] at h; cases h
  | some p1 =>
    obtain ⟨rk, l1⟩ := p1
    rw [hk] at h
    simp only at h
    have hr : l1.length ≤ l.length ∧ rk ≤ 100000 := by
      unfold rrank at hk
      by_cases hg : g = 1
      · rw [if_pos hg] at hk
        have := rsm_le hk
        exact ⟨(rsm_len hk).1, by omega⟩
      · rw [if_neg hg] at hk
        simp at hk
        obtain ⟨rfl, rfl⟩ := hk
        exact ⟨Nat.le_refl _, by omega⟩
    cases hm : rsm 8 l1 with
    | none => rw [hm] at h; cases h
    | some p2 =>
      obtain ⟨k, l2⟩ := p2
      rw [hm] at h
      simp only at h
      have hm1 := rsm_len hm
      have hm2 := rsm_le hm
      cases hv : rlist (stepV p g) k () l2 with
      | none => rw [hv] at h; cases h
      | some p3 =>
        obtain ⟨⟨vs, u⟩, l3⟩ := p3
        rw [hv] at h
        simp at h
        obtain ⟨rfl, rfl⟩ := h
        have h1 := rlist_in (stepV p g) VlIn (fun l x u r _ hs => stepV_in hs) _ _ _ _ _ (by omega) hv
        have h2 := rlist_len _ _ _ _ _ _ _ hv
        exact ⟨by omega, (fun f hf => by cases hf), (fun f hf => by cases hf), ⟨by simp only; omega, by simp only; omega⟩, h1.2, by simp, by simp, by simp only; omega⟩
theorem ndin_0 : NdIn nd0b := ⟨(fun f hf => by cases hf), (fun f hf => by cases hf), i64_0, (fun f hf => by cases hf), by simp [nd0b], by simp [nd0b], by simp [nd0b]⟩
theorem rnode_in {p g : Int} {l r : List UInt8} {n : Nd} (hl : l.length ≤ 60000) (h : rnode p g l = some (n, r)) : r.length ≤ l.length ∧ NdIn n := by
  unfold rnode at h
  by_cases hp : p ≤ 4
  · rw [if_pos hp] at h
    exact rset_in hl h
  · rw [if_neg hp] at h
    cases hf : rflag l with
    | none => rw [hf] at h; cases h
    | some p1 =>
      obtain ⟨f, q⟩ := p1
      have hq := rflag_len hf
      rw [hf] at h
      cases f with
      | true =>
        simp only at h
        have := renv_in (by omega) h
        exact ⟨by omega, this.2⟩
      | false =>
        simp at h
        obtain ⟨rfl, rfl⟩ := h
        exact ⟨hq, ndin_0⟩
theorem stepN_some {p g : Int} {u : Unit} {l r : List UInt8} {n : Nd} (h : stepN p g () l = some ((n, u), r)) : rnode p g l = some (n, r) := by
  unfold stepN at h
  cases hb : rnode p g l with
  | none => rw [hb] at h; cases h
  | some p4 =>
    obtain ⟨v2, q⟩ := p4
    rw [hb] at h
    simp at h
    obtain ⟨rfl, rfl⟩ := h
    rfl
/-- what rcert takes -/
theorem rcert_inv {l r : List UInt8} {c : Ct} (h : rcert l = some (c, r)) : ∃ (b d : UInt8) (q q2 : List UInt8) (k : Nat) (u : Unit), l = b :: d :: q ∧ known (b.toNat : Int) (d.toNat : Int) = true ∧ rsm 60 q = some (k, q2) ∧ c.problem = (b.toNat : Int) ∧ c.grade = (d.toNat : Int) ∧ rlist (stepN (b.toNat : Int) (d.toNat : Int)) k () q2 = some ((c.nodes, u), r) := by
  unfold rcert at h
  split at h
  · rename_i b d q
    split at h
    · rename_i hk
      cases hm : rsm 60 q with
      | none => rw [hm] at h; cases h
      | some p =>
        obtain ⟨k, q2⟩ := p
        rw [hm] at h
        simp only at h
        cases hl : rlist (stepN (b.toNat : Int) (d.toNat : Int)) k () q2 with
        | none => rw [hl] at h; cases h
        | some p2 =>
          obtain ⟨⟨ns, u⟩, q3⟩ := p2
          rw [hl] at h
          simp at h
          obtain ⟨rfl, rfl⟩ := h
          exact ⟨b, d, q, q2, k, u, rfl, hk, hm, rfl, rfl, hl⟩
    · cases h
  · cases h
theorem rcert_in {l r : List UInt8} {c : Ct} (hl : l.length ≤ 60000) (h : rcert l = some (c, r)) : CtIn c := by
  obtain ⟨b, d, q, q2, k, u, rfl, hk, hm, h1, h2, hls⟩ := rcert_inv h
  have hb := UInt8.toNat_lt b
  have hd := UInt8.toNat_lt d
  have hm1 := rsm_len hm
  have hm2 := rsm_le hm
  simp only [List.length_cons] at hl
  have h3 := rlist_in (stepN (b.toNat : Int) (d.toNat : Int)) NdIn (fun l x u r hl hs => rnode_in hl (stepN_some hs)) _ _ _ _ _ (by omega) hls
  have h4 := rlist_len _ _ _ _ _ _ _ hls
  exact ⟨by rw [h1]; exact ⟨by omega, by omega⟩, by rw [h2]; exact ⟨by omega, by omega⟩, h3.2, by omega⟩
theorem rcert_sound {l r : List UInt8} {c : Ct} (h : rcert l = some (c, r)) (hok : okC c = true) : [87, 67, 1] ++ l = encB c ++ r := by
  obtain ⟨b, d, q, q2, k, u, rfl, hk, hm, h1, h2, hls⟩ := rcert_inv h
  obtain ⟨p, g, ns⟩ := c
  simp only at h1 h2
  subst h1 h2
  simp only [okC, Bool.and_eq_true, decide_eq_true_eq] at hok
  have h3 := rlist_sound (stepN (b.toNat : Int) (d.toNat : Int)) (nodeB (b.toNat : Int) (d.toNat : Int)) (fun n => okNode (b.toNat : Int) (d.toNat : Int) n = true) (fun l x u r hs hP => rnode_sound (stepN_some hs) hP) _ _ _ _ _ hls (List.all_eq_true.1 hok.2)
  have h4 := rlist_len _ _ _ _ _ _ _ hls
  rw [((rsm_iff _ _ _ _ (by omega)).1 hm).1, h3]
  simp only at h4
  simp [encB, headB, h4]
theorem byte_of {x : Int} (h : 0 ≤ x) (h2 : x ≤ 255) : ((UInt8.ofNat x.toNat).toNat : Int) = x := by
  simp only [UInt8.toNat_ofNat']
  omega
theorem rcert_complete {c : Ct} (r : List UInt8) (hok : okC c = true) (hin : CtIn c) : ∃ l, encB c ++ r = [87, 67, 1] ++ l ∧ rcert l = some (c, r) := by
  obtain ⟨p, g, ns⟩ := c
  simp only [okC, Bool.and_eq_true, decide_eq_true_eq] at hok
  obtain ⟨⟨hk, h60⟩, hns⟩ := hok
  have hk2 := hk
  simp only [known, Bool.and_eq_true, Bool.or_eq_true, decide_eq_true_eq] at hk2
  have hp : ((UInt8.ofNat p.toNat).toNat : Int) = p := byte_of (by omega) (by omega)
  have hg : ((UInt8.ofNat g.toNat).toNat : Int) = g := by
    refine byte_of ?_ ?_
    · rcases hk2.2 with h | h
      · omega
      · have := h.1; omega
    · rcases hk2.2 with h | h
      · omega
      · have := h.1; omega
  refine ⟨UInt8.ofNat p.toNat :: UInt8.ofNat g.toNat :: (cnt ns.length ++ (ns.flatMap (nodeB p g) ++ r)), by simp [encB, headB], ?_⟩
  unfold rcert
  simp only [hp, hg]
  rw [if_pos hk, rsm_cnt _ (by omega) (by omega)]
  simp only
  rw [rlist_complete (stepN p g) (nodeB p g) ns r (fun n hn r => by
    unfold stepN
    rw [rnode_complete (List.all_eq_true.1 hns n hn) (hin.nodes n hn)])]
theorem dec_sound {l : List UInt8} {c : Ct} (h : dec l = some c) : okC c = true ∧ encB c = l ∧ l.length ≤ 60000 ∧ CtIn c := by
  unfold dec at h
  split at h
  · rename_i r
    split at h
    · rename_i hlen
      split at h
      · rename_i c2 hc
        split at h
        · rename_i hok
          simp at h
          subst h
          have := rcert_sound hc hok
          rw [List.append_nil] at this
          exact ⟨hok, this.symm, hlen, rcert_in (by simp only [List.length_cons] at hlen; omega) hc⟩
        · cases h
      · cases h
    · cases h
  · cases h
theorem dec_complete {c : Ct} (hok : okC c = true) (hin : CtIn c) (hlen : (encB c).length ≤ 60000) : dec (encB c) = some c := by
  obtain ⟨l, h1, h2⟩ := rcert_complete [] hok hin
  rw [List.append_nil] at h1
  rw [h1] at hlen ⊢
  unfold dec
  simp only [List.cons_append, List.nil_append] at hlen ⊢
  rw [if_pos hlen, h2]
  simp only
  rw [if_pos hok]
theorem dec_more {c : Ct} (hok : okC c = true) (hin : CtIn c) (b : UInt8) : dec (encB c ++ [b]) = none := by
  obtain ⟨l, h1, h2⟩ := rcert_complete [b] hok hin
  rw [h1]
  unfold dec
  simp only [List.cons_append, List.nil_append]
  split
  · rw [h2]
  · rfl
end Go.Proofs.Ytmipbiligijcpaa
