/- The document's parser takes just what the writer writes. -/
import Derived.Test.YtmipbiligijcpaaO2
import Derived.Test.YtmipbiligijcpaaF5
namespace Go.Proofs.Ytmipbiligijcpaa
set_option linter.unusedVariables false
set_option linter.unusedSimpArgs false
open Go.RowKit Go.Proofs Go.Maps

theorem rbind_some {α β : Type} {p : List UInt8 → Option (α × List UInt8)} {f : α → List UInt8 → Option (β × List UInt8)} {l : List UInt8} {z : β × List UInt8} (h : rbind p f l = some z) : ∃ x r, p l = some (x, r) ∧ f x r = some z := by
  unfold rbind at h
  cases hp : p l with
  | none => rw [hp] at h; cases h
  | some q =>
    obtain ⟨x, r⟩ := q
    rw [hp] at h
    exact ⟨x, r, rfl, h⟩
theorem rbind_of {α β : Type} {p : List UInt8 → Option (α × List UInt8)} {f : α → List UInt8 → Option (β × List UInt8)} {l r : List UInt8} {x : α} (h : p l = some (x, r)) : rbind p f l = f x r := by
  unfold rbind
  rw [h]
theorem dval6_sound {g : Int} {l r : List UInt8} {v : Vl} (h : dval 6 g l = some (v, r)) : l = valB 6 g v ++ r := by
  unfold dval at h
  rw [if_pos rfl] at h
  obtain ⟨lo, r1, h1, h⟩ := rbind_some h
  obtain ⟨n, r2, h2, h⟩ := rbind_some h
  split at h
  · simp [rret] at h
    obtain ⟨rfl, rfl⟩ := h
    rw [((rnum_iff _ _ _).1 h1).1, ((rc_iff _ _ _).1 h2).1]
    simp only [valB, if_true]
    rw [show (lo + (n : Int) - lo).toNat = n by omega]
    simp
  · cases h
theorem dval6_complete {g rk : Int} {r : List UInt8} {v : Vl} (hok : okVal 6 g rk v = true) (hin : VlIn v) : dval 6 g (valB 6 g v ++ r) = some (v, r) := by
  obtain ⟨kind, lo, hi, early, first, rank⟩ := v
  simp only [okVal, if_true, Bool.and_eq_true, Bool.not_eq_true', decide_eq_true_eq] at hok
  obtain ⟨⟨⟨⟨rfl, rfl⟩, rfl⟩, rfl⟩, hle⟩ := hok
  have hl := hin.lo
  obtain ⟨h3, h4⟩ := hin.hi
  simp only at hl h3 h4
  unfold dval
  rw [if_pos rfl]
  simp only [valB, if_true, List.append_assoc]
  rw [rbind_of ((rnum_iff _ lo (cnt (hi - lo).toNat ++ r)).2 ⟨rfl, hl⟩)]
  obtain ⟨h1, h2⟩ := hl
  rw [rbind_of ((rc_iff _ (hi - lo).toNat r).2 ⟨rfl, by omega⟩), if_pos (by omega)]
  simp only [rret]
  congr 3
  omega
theorem rsm1_flag (l : List UInt8) : rsm ((1 : Nat) : Int) l = match rflag l with | some (f, r) => some (if f then 1 else 0, r) | none => none := by
  cases hf : rflag l with
  | some q =>
    obtain ⟨f, r⟩ := q
    rw [rflag_inv hf]
    cases f with
    | true => exact (rsm_iff _ _ _ _ (by omega)).2 ⟨by rw [if_pos rfl, if_pos rfl, cnt_small (by omega)]; rfl, by simp⟩
    | false => exact (rsm_iff _ _ _ _ (by omega)).2 ⟨by rw [if_neg (by simp), if_neg (by simp), cnt_small (by omega)]; rfl, by simp⟩
  | none =>
    simp only
    cases hr : rsm ((1 : Nat) : Int) l with
    | none => rfl
    | some q =>
      exfalso
      obtain ⟨n, r⟩ := q
      obtain ⟨h1, h2⟩ := (rsm_iff _ _ _ _ (by omega)).1 hr
      have h3 : n = 0 ∨ n = 1 := by omega
      rcases h3 with rfl | rfl
      · rw [cnt_small (by omega)] at h1
        subst h1
        simp [rflag] at hf
      · rw [cnt_small (by omega)] at h1
        subst h1
        simp [rflag] at hf
theorem dval_eq {p g : Int} (hp : p ≠ 6) (l : List UInt8) : dval p g l = rval g l := by
  unfold dval rval
  rw [if_neg hp]
  cases l with
  | nil => rfl
  | cons b q =>
    simp only [rbind, roct]
    by_cases h1 : b.toNat = 1
    · rw [if_pos h1, if_pos h1]
      simp only [rbind]
      cases rnum q with
      | none => rfl
      | some z => rfl
    · rw [if_neg h1, if_neg h1]
      by_cases h2 : b.toNat = 2
      · rw [if_pos h2, if_pos h2]
        by_cases hg : g = 1
        · rw [if_pos hg, if_pos hg]
          simp only [rbind]
          rw [rsm1_flag]
          cases rflag q with
          | none => rfl
          | some z =>
            obtain ⟨f, r⟩ := z
            cases f with
            | true =>
              simp only [if_true]
              unfold rearly
              simp only [rbind]
              cases rnum r with
              | none => rfl
              | some z2 =>
                obtain ⟨x, r2⟩ := z2
                simp only [rbind, rret]
                rw [show ((100000 : Nat) : Int) = 100000 from rfl]
                cases rsm 100000 r2 with
                | none => rfl
                | some z3 => rfl
            | false =>
              simp only [Bool.false_eq_true, if_false]
              rfl
        · rw [if_neg hg, if_neg hg]
          rfl
      · rw [if_neg h2, if_neg h2]
        rfl
theorem dval_sound {p g : Int} {l r : List UInt8} {v : Vl} (h : dval p g l = some (v, r)) : l = valB p g v ++ r := by
  by_cases hp : p = 6
  · subst hp
    exact dval6_sound h
  · rw [dval_eq hp] at h
    exact rval_sound hp h
theorem dval_complete {p g rk : Int} {r : List UInt8} {v : Vl} (hok : okVal p g rk v = true) (hrk : 0 ≤ rk) (hin : VlIn v) : dval p g (valB p g v ++ r) = some (v, r) := by
  by_cases hp : p = 6
  · subst hp
    exact dval6_complete hok hin
  · rw [dval_eq hp]
    exact rval_complete hp hok hrk hin
theorem stepX_eq : stepX = stepR := rfl
theorem dfacts_sound : ∀ (n : Nat) (last : Int) (l : List UInt8) (fs : List Int) (st : Int) (r : List UInt8), rlist stepD n last l = some ((fs, st), r) → l = (deltas (last + 1) fs).flatMap cntI ++ r
  | 0, last, l, fs, st, r, h => by
    simp [rlist] at h
    obtain ⟨⟨rfl, _⟩, rfl⟩ := h
    rfl
  | n + 1, last, l, fs, st, r, h => by
    rw [rlist] at h
    cases hs : stepD last l with
    | none => rw [hs] at h; cases h
    | some p =>
      obtain ⟨⟨x, st1⟩, q⟩ := p
      rw [hs] at h
      simp only at h
      cases hq : rlist stepD n st1 q with
      | none => rw [hq] at h; cases h
      | some p2 =>
        obtain ⟨⟨ys, st2⟩, q2⟩ := p2
        rw [hq] at h
        simp at h
        obtain ⟨⟨rfl, _⟩, rfl⟩ := h
        unfold stepD at hs
        cases hm : rsm ((100000 : Nat) : Int) l with
        | none => rw [hm] at hs; cases hs
        | some p3 =>
          obtain ⟨m, q3⟩ := p3
          rw [hm] at hs
          simp only [Option.some.injEq, Prod.mk.injEq] at hs
          obtain ⟨⟨rfl, rfl⟩, rfl⟩ := hs
          obtain ⟨h1, h2⟩ := (rsm_iff _ _ _ _ (by omega)).1 hm
          have h3 := dfacts_sound n _ _ _ _ _ hq
          have e2 : cntI (last + 1 + (m : Int) - (last + 1)) = cnt m := by
            unfold cntI
            congr 1
            omega
          rw [h1, h3]
          simp only [deltas, List.flatMap_cons, List.append_assoc, e2]
theorem dfacts_complete : ∀ (fs : List Int) (last : Int) (r : List UInt8), -1 ≤ last → rises (last + 1) fs = true → ∃ st, rlist stepD fs.length last ((deltas (last + 1) fs).flatMap cntI ++ r) = some ((fs, st), r)
  | [], last, r, _, _ => ⟨last, rfl⟩
  | f :: fs, last, r, h0, h => by
    simp only [rises, Bool.and_eq_true, decide_eq_true_eq] at h
    obtain ⟨⟨h1, h2⟩, h3⟩ := h
    obtain ⟨st, hst⟩ := dfacts_complete fs f r (by omega) h3
    refine ⟨st, ?_⟩
    rw [List.length_cons, rlist]
    simp only [deltas, List.flatMap_cons, List.append_assoc]
    have hs : stepD last (cntI (f - (last + 1)) ++ ((deltas (f + 1) fs).flatMap cntI ++ r)) = some ((f, f), (deltas (f + 1) fs).flatMap cntI ++ r) := by
      unfold stepD
      rw [rsm_cntI _ (by omega) (by omega) (by omega)]
      simp only
      have : last + 1 + ((f - (last + 1)).toNat : Int) = f := by omega
      rw [this]
    rw [hs]
    simp only
    rw [hst]
theorem dset_sound {g : Int} {l r : List UInt8} {n : Nd} (h : dset g l = some (n, r)) : l = setB n ++ r := by
  unfold dset at h
  obtain ⟨k, r1, h1, h⟩ := rbind_some h
  obtain ⟨⟨fs, st⟩, r2, h2, h⟩ := rbind_some h
  have e1 := ((rsm_iff _ _ _ _ (by omega)).1 h1).1
  have e2 := dfacts_sound _ _ _ _ _ _ h2
  have e3 := rlist_len _ _ _ _ _ _ _ h2
  rw [show (-1 : Int) + 1 = 0 from rfl] at e2
  split at h
  · obtain ⟨⟨rs, u⟩, r3, h3, h⟩ := rbind_some h
    simp [rret] at h
    obtain ⟨rfl, rfl⟩ := h
    rw [stepX_eq] at h3
    have e4 := rlist_sound stepR cntI (fun _ => True) stepR_sound _ _ _ _ _ h3 (fun _ _ => trivial)
    rw [e1, e2, e4]
    simp [setB, e3]
  · simp [rret] at h
    obtain ⟨rfl, rfl⟩ := h
    rw [e1, e2]
    simp [setB, e3]
theorem setB_ge (n : Nd) : n.facts.length ≤ (setB n).length := by
  have h3 := flat_ge cntI (fun x => cnt_ge _) (deltas 0 n.facts)
  rw [deltas_len] at h3
  simp only [setB, List.length_append]
  omega
theorem dset_complete {g : Int} {r : List UInt8} {n : Nd} (h : okSet g n = true) (hl : (setB n).length ≤ 60000) : dset g (setB n ++ r) = some (n, r) := by
  have hge := setB_ge n
  obtain ⟨fs, rs, re, k, vs⟩ := n
  simp only [okSet, Bool.and_eq_true, Bool.not_eq_true', decide_eq_true_eq, List.isEmpty_iff] at h
  obtain ⟨⟨⟨⟨rfl, rfl⟩, rfl⟩, h1⟩, h2⟩ := h
  simp only at hge
  unfold dset
  simp only [setB, List.append_assoc]
  rw [rbind_of (rsm_cnt (n := fs.length) _ (by omega) (by omega))]
  obtain ⟨st, hst⟩ := dfacts_complete fs (-1) (rs.flatMap cntI ++ r) (by omega) h1
  rw [show (-1 : Int) + 1 = 0 from rfl] at hst
  rw [rbind_of hst]
  unfold okRanks at h2
  by_cases hg : g = 1
  · rw [if_pos hg] at h2 ⊢
    simp only [Bool.and_eq_true, decide_eq_true_eq] at h2
    have h4 := rlist_complete stepR cntI rs r (fun x hx r => by
      have h5 := List.all_eq_true.1 h2.2 x hx
      simp only [rk, Bool.and_eq_true, decide_eq_true_eq] at h5
      unfold stepR
      rw [rsm_cntI r (by omega) (by omega) (by omega)]
      simp only
      congr 3
      omega)
    rw [h2.1, ← stepX_eq] at h4
    rw [rbind_of h4]
    rfl
  · rw [if_neg hg] at h2 ⊢
    simp only [List.isEmpty_iff] at h2
    subst h2
    simp [rret]
theorem stepW_some {p g : Int} {u : Unit} {l r : List UInt8} {v : Vl} (h : stepW p g () l = some ((v, u), r)) : dval p g l = some (v, r) := by
  unfold stepW at h
  cases hb : dval p g l with
  | none => rw [hb] at h; cases h
  | some p4 =>
    obtain ⟨v2, q⟩ := p4
    rw [hb] at h
    simp at h
    obtain ⟨rfl, rfl⟩ := h
    rfl
theorem denv_sound {p g : Int} (hp : ¬ p ≤ 4) {l r : List UInt8} {n : Nd} (h : denv p g l = some (n, r)) : l = nodeB p g n ++ r := by
  unfold denv at h
  obtain ⟨y, r1, h1, h⟩ := rbind_some h
  obtain ⟨e1, e2⟩ := (rsm_iff _ _ _ _ (by omega)).1 h1
  split at h
  · rename_i hy
    subst hy
    simp [rret] at h
    obtain ⟨rfl, rfl⟩ := h
    rw [e1, cnt_small (by omega)]
    simp [nodeB, hp, nd0b]
  · rename_i hy
    obtain rfl : y = 1 := by omega
    obtain ⟨rk, r2, h2, h⟩ := rbind_some h
    obtain ⟨k, r3, h3, h⟩ := rbind_some h
    obtain ⟨⟨vs, u⟩, r4, h4, h⟩ := rbind_some h
    simp [rret] at h
    obtain ⟨rfl, rfl⟩ := h
    have e3 := ((rsm_iff _ _ _ _ (by omega)).1 h3).1
    have e4 := rlist_sound (stepW p g) (valB p g) (fun _ => True) (fun l x u r hs _ => dval_sound (stepW_some hs)) _ _ _ _ _ h4 (fun _ _ => trivial)
    have e5 := rlist_len _ _ _ _ _ _ _ h4
    rw [e1, cnt_small (by omega)]
    unfold drank at h2
    by_cases hg : g = 1
    · rw [if_pos hg] at h2
      rw [((rsm_iff _ _ _ _ (by omega)).1 h2).1, e3, e4]
      simp [nodeB, hp, envB, hg, e5, cntI]
    · rw [if_neg hg] at h2
      simp [rret] at h2
      obtain ⟨rfl, rfl⟩ := h2
      rw [e3, e4]
      simp [nodeB, hp, envB, hg, e5]
theorem denv_complete {p g : Int} (hp : ¬ p ≤ 4) {r : List UInt8} {n : Nd} (hok : okNode p g n = true) (hin : NdIn n) : denv p g (nodeB p g n ++ r) = some (n, r) := by
  unfold okNode at hok
  rw [if_neg hp] at hok
  unfold denv nodeB
  rw [if_neg hp]
  by_cases hre : n.reached = true
  · rw [if_pos hre] at hok ⊢
    obtain ⟨fs, rs, re, k, vs⟩ := n
    simp only [okEnv, Bool.and_eq_true, Bool.or_eq_true, decide_eq_true_eq, List.isEmpty_iff, rk] at hok
    obtain ⟨⟨⟨⟨⟨rfl, rfl⟩, h8⟩, hk⟩, hg0⟩, hvs⟩ := hok
    simp only at hre
    subst hre
    have hva := List.all_eq_true.1 hvs
    have e1 : (1 : UInt8) :: envB p g ⟨[], [], true, k, vs⟩ ++ r = cnt 1 ++ (envB p g ⟨[], [], true, k, vs⟩ ++ r) := by rw [cnt_small (by omega)]; rfl
    rw [e1, rbind_of (rsm_cnt _ (by omega) (by omega)), if_neg (by omega)]
    simp only [envB, List.append_assoc]
    have h1 : drank g ((if g = 1 then cntI k else []) ++ (cnt vs.length ++ (vs.flatMap (valB p g) ++ r))) = some (k.toNat, cnt vs.length ++ (vs.flatMap (valB p g) ++ r)) := by
      unfold drank
      by_cases hg : g = 1
      · rw [if_pos hg, if_pos hg, rsm_cntI _ (by omega) (by omega) (by omega)]
      · rw [if_neg hg, if_neg hg]
        rcases hg0 with h | h
        · exact absurd h hg
        · rw [h]; rfl
    rw [rbind_of h1, rbind_of (rsm_cnt _ (by omega) (by omega))]
    rw [rbind_of (rlist_complete (stepW p g) (valB p g) vs r (fun v hv r => by
      unfold stepW
      rw [dval_complete (hva v hv) hk.1 (hin.vals v hv)]))]
    simp only [rret]
    congr 3
    omega
  · rw [if_neg hre] at hok ⊢
    obtain ⟨fs, rs, re, k, vs⟩ := n
    simp only [okBare, Bool.and_eq_true, Bool.not_eq_true', decide_eq_true_eq, List.isEmpty_iff] at hok
    obtain ⟨⟨⟨⟨rfl, rfl⟩, rfl⟩, rfl⟩, rfl⟩ := hok
    have e1 : ([0] : List UInt8) ++ r = cnt 0 ++ r := by rw [cnt_small (by omega)]; rfl
    rw [e1, rbind_of (rsm_cnt _ (by omega) (by omega)), if_pos rfl]
    rfl
theorem dnode_sound {p g : Int} {l r : List UInt8} {n : Nd} (h : dnode p g l = some (n, r)) : l = nodeB p g n ++ r := by
  unfold dnode at h
  by_cases hp : p ≤ 4
  · rw [if_pos hp] at h
    rw [dset_sound h]
    simp [nodeB, hp]
  · rw [if_neg hp] at h
    exact denv_sound hp h
theorem dnode_complete {p g : Int} {r : List UInt8} {n : Nd} (hok : okNode p g n = true) (hin : NdIn n) (hl : (nodeB p g n).length ≤ 60000) : dnode p g (nodeB p g n ++ r) = some (n, r) := by
  unfold dnode
  by_cases hp : p ≤ 4
  · rw [if_pos hp]
    unfold okNode at hok
    rw [if_pos hp] at hok
    unfold nodeB at hl ⊢
    rw [if_pos hp] at hl ⊢
    exact dset_complete hok hl
  · rw [if_neg hp]
    exact denv_complete hp hok hin
def stepM (p g : Int) (_ : Unit) (l : List UInt8) : Option ((Nd × Unit) × List UInt8) := match dnode p g l with
  | some (n, r) => some ((n, ()), r)
  | none => none
theorem stepM_some {p g : Int} {u : Unit} {l r : List UInt8} {n : Nd} (h : stepM p g () l = some ((n, u), r)) : dnode p g l = some (n, r) := by
  unfold stepM at h
  cases hb : dnode p g l with
  | none => rw [hb] at h; cases h
  | some p4 =>
    obtain ⟨v2, q⟩ := p4
    rw [hb] at h
    simp at h
    obtain ⟨rfl, rfl⟩ := h
    rfl
def dnodes (p g : Int) : List UInt8 → Option (List Nd × List UInt8) := rbind (rsm ((60 : Nat) : Int)) (fun k => rbind (rlist (stepM p g) k ()) (fun ns => rret ns.1))
theorem dnodes_sound {p g : Int} {l r : List UInt8} {ns : List Nd} (h : dnodes p g l = some (ns, r)) : l = cnt ns.length ++ (ns.flatMap (nodeB p g) ++ r) := by
  unfold dnodes at h
  obtain ⟨k, r1, h1, h⟩ := rbind_some h
  obtain ⟨⟨ms, u⟩, r2, h2, h⟩ := rbind_some h
  simp [rret] at h
  obtain ⟨rfl, rfl⟩ := h
  have e2 := rlist_sound (stepM p g) (nodeB p g) (fun _ => True) (fun l x u r hs _ => dnode_sound (stepM_some hs)) _ _ _ _ _ h2 (fun _ _ => trivial)
  have e3 := rlist_len _ _ _ _ _ _ _ h2
  rw [((rsm_iff _ _ _ _ (by omega)).1 h1).1, e2, e3]
theorem flat_one {α : Type} (f : α → List UInt8) : ∀ (l : List α) (x : α), x ∈ l → (f x).length ≤ (l.flatMap f).length
  | [], x, h => by cases h
  | a :: l, x, h => by
    simp only [List.flatMap_cons, List.length_append]
    rcases List.mem_cons.1 h with rfl | h
    · omega
    · have := flat_one f l x h
      omega
theorem dnodes_complete {p g : Int} {r : List UInt8} {ns : List Nd} (hok : ns.all (okNode p g) = true) (hin : ∀ n ∈ ns, NdIn n) (h60 : ns.length ≤ 60) (hl : (ns.flatMap (nodeB p g)).length ≤ 60000) : dnodes p g (cnt ns.length ++ (ns.flatMap (nodeB p g) ++ r)) = some (ns, r) := by
  unfold dnodes
  rw [rbind_of (rsm_cnt _ (by omega) (by omega))]
  rw [rbind_of (rlist_complete (stepM p g) (nodeB p g) ns r (fun n hn r => by
    unfold stepM
    rw [dnode_complete (List.all_eq_true.1 hok n hn) (hin n hn) (by have := flat_one (nodeB p g) ns n hn; omega)]))]
  rfl
/-- what the document's Decode comes to -/
theorem ddec_yes {s : List UInt8} {b d : UInt8} {q : List UInt8} {ns : List Nd} (hs : s = 87 :: 67 :: 1 :: b :: d :: q) (hl : s.length ≤ 60000) (h : dnodes (b.toNat : Int) (d.toNat : Int) q = some (ns, [])) (hok : okC ⟨(b.toNat : Int), (d.toNat : Int), ns⟩ = true) (hin : CtIn ⟨(b.toNat : Int), (d.toNat : Int), ns⟩) : dec s = some ⟨(b.toNat : Int), (d.toNat : Int), ns⟩ := by
  have e := dnodes_sound h
  have he : encB ⟨(b.toNat : Int), (d.toNat : Int), ns⟩ = s := by
    rw [hs, e]
    simp [encB, headB]
  rw [← he] at hl ⊢
  exact dec_complete hok hin hl
theorem ddec_inv {s : List UInt8} {c : Ct} (h : dec s = some c) : ∃ (b d : UInt8) (q : List UInt8), s = 87 :: 67 :: 1 :: b :: d :: q ∧ s.length ≤ 60000 ∧ c.problem = (b.toNat : Int) ∧ c.grade = (d.toNat : Int) ∧ known (b.toNat : Int) (d.toNat : Int) = true ∧ okC c = true ∧ dnodes (b.toNat : Int) (d.toNat : Int) q = some (c.nodes, []) := by
  obtain ⟨h1, h2, h3, h4⟩ := dec_sound h
  obtain ⟨p, g, ns⟩ := c
  have h1' := h1
  simp only [okC, Bool.and_eq_true, decide_eq_true_eq] at h1'
  obtain ⟨⟨hk, h60⟩, hns⟩ := h1'
  have hk2 := hk
  simp only [known, Bool.and_eq_true, Bool.or_eq_true, decide_eq_true_eq] at hk2
  have hp : ((UInt8.ofNat p.toNat).toNat : Int) = p := byte_of (by omega) (by omega)
  have hg : ((UInt8.ofNat g.toNat).toNat : Int) = g := by
    refine byte_of ?_ ?_
    · rcases hk2.2 with h | h
      · omega
      · have := h.1; omega
    · rcases hk2.2 with h | h
      · omega
      · have := h.1; omega
  refine ⟨UInt8.ofNat p.toNat, UInt8.ofNat g.toNat, cnt ns.length ++ (ns.flatMap (nodeB p g) ++ []), by rw [← h2]; simp [encB, headB], h3, hp.symm, hg.symm, by rw [hp, hg]; exact hk, h1, ?_⟩
  rw [hp, hg]
  refine dnodes_complete hns h4.nodes h60 ?_
  rw [← h2] at h3
  simp only [encB, List.length_append] at h3
  omega
end Go.Proofs.Ytmipbiligijcpaa
