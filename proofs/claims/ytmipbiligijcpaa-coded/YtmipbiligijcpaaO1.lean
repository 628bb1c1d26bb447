/- What the parser takes is just what the writer writes. -/
import Derived.Test.YtmipbiligijcpaaN12
namespace Go.Proofs.Ytmipbiligijcpaa
set_option linter.unusedVariables false
set_option linter.unusedSimpArgs false
open Go.RowKit Go.Proofs Go.Maps

def nd0b : Nd := ⟨[], [], false, 0, []⟩
def rnode (p g : Int) (l : List UInt8) : Option (Nd × List UInt8) := if p ≤ 4 then rset g l else match rflag l with
  | some (true, r) => renv p g r
  | some (false, r) => some (nd0b, r)
  | none => none
def stepN (p g : Int) (_ : Unit) (l : List UInt8) : Option ((Nd × Unit) × List UInt8) := match rnode p g l with
  | some (n, r) => some ((n, ()), r)
  | none => none
def rcert (l : List UInt8) : Option (Ct × List UInt8) := match l with
  | b :: c :: q => if known (b.toNat : Int) (c.toNat : Int) = true then (match rsm 60 q with
      | some (k, q2) => (match rlist (stepN (b.toNat : Int) (c.toNat : Int)) k () q2 with
        | some ((ns, _), q3) => some (⟨(b.toNat : Int), (c.toNat : Int), ns⟩, q3)
        | none => none)
      | none => none) else none
  | _ => none
/-- the certificate that these bytes are -/
def dec (l : List UInt8) : Option Ct := match l with
  | 87 :: 67 :: 1 :: r => if l.length ≤ 60000 then (match rcert r with
      | some (c, []) => if okC c = true then some c else none
      | _ => none) else none
  | _ => none

theorem rsm_iff (most : Int) (l : List UInt8) (n : Nat) (r : List UInt8) (hm : most < 18446744073709551616) : rsm most l = some (n, r) ↔ l = cnt n ++ r ∧ (n : Int) ≤ most := by
  unfold rsm
  constructor
  · intro h
    cases hc : rc l with
    | none => rw [hc] at h; cases h
    | some p =>
      obtain ⟨m, q⟩ := p
      rw [hc] at h
      simp only at h
      split at h
      · rename_i hle
        simp at h
        obtain ⟨rfl, rfl⟩ := h
        exact ⟨((rc_iff _ _ _).1 hc).1, hle⟩
      · cases h
  · rintro ⟨h1, h2⟩
    rw [(rc_iff l n r).2 ⟨h1, by omega⟩]
    simp only
    rw [if_pos h2]
theorem rsm_cnt {most : Int} {n : Nat} (r : List UInt8) (hm : most < 18446744073709551616) (h : (n : Int) ≤ most) : rsm most (cnt n ++ r) = some (n, r) := (rsm_iff most _ n r hm).2 ⟨rfl, h⟩
theorem rsm_cntI {most x : Int} (r : List UInt8) (hm : most < 18446744073709551616) (h0 : 0 ≤ x) (h : x ≤ most) : rsm most (cntI x ++ r) = some (x.toNat, r) := rsm_cnt r hm (by omega)
theorem unz_zig (x : Int) : unz (zig x) = x := by
  unfold unz zig
  by_cases h : 0 ≤ x
  · rw [if_pos h, if_pos (by omega)]; omega
  · rw [if_neg h, if_neg (by omega)]; omega
theorem zig_unz (n : Nat) : zig (unz n) = n := by
  unfold unz zig
  by_cases h : n % 2 = 0
  · rw [if_pos h, if_pos (by omega)]; omega
  · rw [if_neg h, if_neg (by omega)]; omega
theorem rnum_iff (l : List UInt8) (x : Int) (r : List UInt8) : rnum l = some (x, r) ↔ l = sgn x ++ r ∧ I64 x := by
  unfold rnum sgn
  constructor
  · intro h
    cases hc : rc l with
    | none => rw [hc] at h; cases h
    | some p =>
      obtain ⟨m, q⟩ := p
      rw [hc] at h
      simp at h
      obtain ⟨rfl, rfl⟩ := h
      obtain ⟨h1, h2⟩ := (rc_iff _ _ _).1 hc
      rw [zig_unz]
      refine ⟨h1, ?_⟩
      unfold unz I64
      split <;> omega
  · rintro ⟨h1, h2⟩
    obtain ⟨h3, h4⟩ := h2
    rw [(rc_iff l (zig x) r).2 ⟨h1, by unfold zig; split <;> omega⟩]
    simp only [unz_zig]
theorem hiOf_eq (lo : Int) (n : Nat) (hl : I64 lo) : hiOf lo n = (lo + (n : Int) + 9223372036854775808) % 18446744073709551616 - 9223372036854775808 := by
  obtain ⟨h1, h2⟩ := hl
  simp only [hiOf, wrap64, IntKind.wrap, IntKind.bits, IntKind.signed]
  simp
theorem rbnd_sound {l r : List UInt8} {v : Vl} (h : rbnd l = some (v, r)) (hle : v.lo ≤ v.hi) : l = (sgn v.lo ++ cnt (v.hi - v.lo).toNat) ++ r := by
  unfold rbnd at h
  cases hn : rnum l with
  | none => rw [hn] at h; cases h
  | some p =>
    obtain ⟨lo, q⟩ := p
    rw [hn] at h
    simp only at h
    cases hc : rc q with
    | none => rw [hc] at h; cases h
    | some p2 =>
      obtain ⟨n, q2⟩ := p2
      rw [hc] at h
      simp at h
      obtain ⟨rfl, rfl⟩ := h
      obtain ⟨h1, h2⟩ := (rnum_iff _ _ _).1 hn
      obtain ⟨h3, h4⟩ := (rc_iff _ _ _).1 hc
      simp only at hle ⊢
      rw [hiOf_eq lo n h2] at hle ⊢
      obtain ⟨h5, h6⟩ := h2
      have : ((lo + (n : Int) + 9223372036854775808) % 18446744073709551616 - 9223372036854775808 - lo).toNat = n := by omega
      rw [this, h1, h3]
      simp
theorem rbnd_complete {r : List UInt8} {v : Vl} (hk : v.kind = 3) (he : v.early = false) (hf : v.first = 0) (hr : v.rank = 0) (hle : v.lo ≤ v.hi) (hin : VlIn v) : rbnd ((sgn v.lo ++ cnt (v.hi - v.lo).toNat) ++ r) = some (v, r) := by
  obtain ⟨kind, lo, hi, early, first, rank⟩ := v
  simp only at hk he hf hr hle
  subst hk he hf hr
  have hl := hin.lo
  have hh := hin.hi
  simp only at hl hh ⊢
  unfold rbnd
  rw [(rnum_iff _ lo (cnt (hi - lo).toNat ++ r)).2 ⟨by simp, hl⟩]
  simp only
  obtain ⟨h1, h2⟩ := hl
  obtain ⟨h3, h4⟩ := hh
  rw [(rc_iff _ (hi - lo).toNat r).2 ⟨rfl, by omega⟩]
  simp only
  rw [hiOf_eq lo _ ⟨h1, h2⟩]
  congr 3
  omega
theorem u8_one {b : UInt8} (h : b.toNat = 1) : b = 1 := by apply UInt8.toNat.inj; rw [h]; rfl
theorem u8_two {b : UInt8} (h : b.toNat = 2) : b = 2 := by apply UInt8.toNat.inj; rw [h]; rfl
theorem u8_zero {b : UInt8} (h : b.toNat = 0) : b = 0 := by apply UInt8.toNat.inj; rw [h]; rfl
theorem rflag_inv {l r : List UInt8} {f : Bool} (h : rflag l = some (f, r)) : l = (if f then 1 else 0) :: r := by
  unfold rflag at h
  cases l with
  | nil => cases h
  | cons b q =>
    simp only at h
    split at h
    · rename_i hb
      simp at h
      obtain ⟨rfl, rfl⟩ := h
      by_cases h1 : b.toNat = 1
      · rw [u8_one h1]; rfl
      · have h0 : b.toNat = 0 := by omega
        rw [u8_zero h0]; rfl
    · cases h
theorem rval_sound {g : Int} {l r : List UInt8} {v : Vl} {p : Int} (hp : p ≠ 6) (h : rval g l = some (v, r)) : l = valB p g v ++ r := by
  unfold rval at h
  cases l with
  | nil => cases h
  | cons b q =>
    simp only at h
    by_cases h1 : b.toNat = 1
    · rw [if_pos h1] at h
      cases hn : rnum q with
      | none => rw [hn] at h; cases h
      | some pp =>
        obtain ⟨x, q2⟩ := pp
        rw [hn] at h
        simp at h
        obtain ⟨rfl, rfl⟩ := h
        rw [((rnum_iff _ _ _).1 hn).1, u8_one h1]
        simp [valB, hp]
    · rw [if_neg h1] at h
      by_cases h2 : b.toNat = 2
      · rw [if_pos h2] at h
        rw [u8_two h2]
        by_cases hg : g = 1
        · rw [if_pos hg] at h
          cases hf : rflag q with
          | none => rw [hf] at h; cases h
          | some pp =>
            obtain ⟨f, q2⟩ := pp
            rw [hf] at h
            simp only at h
            rw [rflag_inv hf]
            cases f with
            | true =>
              simp only [if_true] at h ⊢
              unfold rearly at h
              cases hn : rnum q2 with
              | none => rw [hn] at h; cases h
              | some p3 =>
                obtain ⟨x, q3⟩ := p3
                rw [hn] at h
                simp only at h
                cases hs : rsm 100000 q3 with
                | none => rw [hs] at h; cases h
                | some p4 =>
                  obtain ⟨k, q4⟩ := p4
                  rw [hs] at h
                  simp at h
                  obtain ⟨rfl, rfl⟩ := h
                  rw [((rnum_iff _ _ _).1 hn).1, ((rsm_iff _ _ _ _ (by omega)).1 hs).1]
                  simp [valB, hp, hg, cntI]
            | false =>
              simp at h
              obtain ⟨rfl, rfl⟩ := h
              simp [valB, hp, hg]
        · rw [if_neg hg] at h
          simp at h
          obtain ⟨rfl, rfl⟩ := h
          simp [valB, hp, hg]
      · rw [if_neg h2] at h; cases h
theorem rval_complete {p g rk : Int} {r : List UInt8} {v : Vl} (hp : p ≠ 6) (hok : okVal p g rk v = true) (hrk : 0 ≤ rk) (hin : VlIn v) : rval g (valB p g v ++ r) = some (v, r) := by
  obtain ⟨kind, lo, hi, early, first, rank⟩ := v
  unfold okVal at hok
  rw [if_neg hp] at hok
  have hl := hin.lo
  have hf := hin.first
  simp only at hok hl hf
  cases early with
  | true =>
    simp [okEarly] at hok
    obtain ⟨⟨⟨⟨⟨hg, h1⟩, h2⟩, rfl⟩, rfl⟩, rfl⟩ := hok
    subst hg
    simp only [valB, hp, if_true, if_false]
    rw [if_neg (by decide)]
    simp only [List.cons_append, rval, rflag, rearly]
    rw [if_neg (by decide), if_pos (by decide), if_pos trivial, if_pos (by decide)]
    simp only [show decide ((1 : UInt8).toNat = 1) = true from rfl, if_true]
    rw [(rnum_iff _ first (cntI rank ++ r)).2 ⟨by simp, hf⟩]
    simp only
    rw [rsm_cntI r (by omega) (by omega) (by omega)]
    simp only
    congr 3
    omega
  | false =>
    simp at hok
    rcases hok with ⟨⟨⟨rfl, rfl⟩, rfl⟩, rfl⟩ | ⟨⟨⟨⟨rfl, rfl⟩, rfl⟩, rfl⟩, rfl⟩
    · simp only [valB, hp, if_true, if_false, List.cons_append, rval]
      rw [if_pos (by decide), (rnum_iff _ lo r).2 ⟨rfl, hl⟩]
    · simp only [valB, hp, if_false]
      rw [if_neg (by decide)]
      by_cases hg : g = 1
      · simp only [hg, if_true, Bool.false_eq_true, if_false, List.cons_append, List.nil_append, rval, rflag]
        rw [if_neg (by decide), if_pos (by decide), if_pos (by decide)]
        rfl
      · simp only [hg, if_false, List.cons_append, List.nil_append, rval]
        rw [if_neg (by decide), if_pos (by decide)]
theorem rlist_sound {α : Type} (step : Unit → List UInt8 → Option ((α × Unit) × List UInt8)) (B : α → List UInt8) (P : α → Prop) (h : ∀ l x u r, step () l = some ((x, u), r) → P x → l = B x ++ r) : ∀ (n : Nat) (l : List UInt8) (xs : List α) (u : Unit) (r : List UInt8), rlist step n () l = some ((xs, u), r) → (∀ x ∈ xs, P x) → l = xs.flatMap B ++ r
  | 0, l, xs, u, r, hr, hP => by
    simp [rlist] at hr
    obtain ⟨rfl, rfl⟩ := hr
    rfl
  | n + 1, l, xs, u, r, hr, hP => by
    rw [rlist] at hr
    cases hs : step () l with
    | none => rw [hs] at hr; cases hr
    | some p =>
      obtain ⟨⟨x, u1⟩, q⟩ := p
      rw [hs] at hr
      simp only at hr
      cases hq : rlist step n u1 q with
      | none => rw [hq] at hr; cases hr
      | some p2 =>
        obtain ⟨⟨ys, u2⟩, q2⟩ := p2
        rw [hq] at hr
        simp at hr
        obtain ⟨rfl, rfl⟩ := hr
        have h1 := rlist_sound step B P h n q ys u2 q2 hq (fun y hy => hP y (by simp [hy]))
        rw [h l x u1 q hs (hP x (by simp)), h1]
        simp
theorem rlist_complete {α : Type} (step : Unit → List UInt8 → Option ((α × Unit) × List UInt8)) (B : α → List UInt8) : ∀ (xs : List α) (r : List UInt8), (∀ x ∈ xs, ∀ r, step () (B x ++ r) = some ((x, ()), r)) → rlist step xs.length () (xs.flatMap B ++ r) = some ((xs, ()), r)
  | [], r, _ => rfl
  | x :: xs, r, h => by
    rw [List.length_cons, rlist, List.flatMap_cons, List.append_assoc, h x (by simp)]
    simp only
    rw [rlist_complete step B xs r (fun y hy => h y (by simp [hy]))]
theorem facts_sound : ∀ (n fl : Nat) (l : List UInt8) (fs : List Int) (st : Nat) (r : List UInt8), rlist stepF n fl l = some ((fs, st), r) → l = (deltas (fl : Int) fs).flatMap cntI ++ r ∧ rises (fl : Int) fs = true
  | 0, fl, l, fs, st, r, h => by
    simp [rlist] at h
    obtain ⟨⟨rfl, _⟩, rfl⟩ := h
    exact ⟨rfl, rfl⟩
  | n + 1, fl, l, fs, st, r, h => by
    rw [rlist] at h
    cases hs : stepF fl l with
    | none => rw [hs] at h; cases h
    | some p =>
      obtain ⟨⟨x, st1⟩, q⟩ := p
      rw [hs] at h
      simp only at h
      cases hq : rlist stepF n st1 q with
      | none => rw [hq] at h; cases h
      | some p2 =>
        obtain ⟨⟨ys, st2⟩, q2⟩ := p2
        rw [hq] at h
        simp at h
        obtain ⟨⟨rfl, _⟩, rfl⟩ := h
        unfold stepF at hs
        cases hm : rsm (100000 - (fl : Int)) l with
        | none => rw [hm] at hs; cases hs
        | some p3 =>
          obtain ⟨m, q3⟩ := p3
          rw [hm] at hs
          simp only [Option.some.injEq, Prod.mk.injEq] at hs
          obtain ⟨⟨rfl, rfl⟩, rfl⟩ := hs
          obtain ⟨h1, h2⟩ := (rsm_iff _ _ _ _ (by omega)).1 hm
          obtain ⟨h3, h4⟩ := facts_sound n (fl + m + 1) _ _ _ _ hq
          have e : ((fl + m + 1 : Nat) : Int) = ((fl + m : Nat) : Int) + 1 := by omega
          rw [e] at h3 h4
          refine ⟨?_, ?_⟩
          · have e2 : cntI (((fl + m : Nat) : Int) - (fl : Int)) = cnt m := by
              unfold cntI
              congr 1
              omega
            rw [h1, h3]
            simp only [deltas, List.flatMap_cons, List.append_assoc, e2]
          · simp only [rises, h4, Bool.and_true, Bool.and_eq_true, decide_eq_true_eq]
            omega
theorem facts_complete : ∀ (fs : List Int) (fl : Nat) (r : List UInt8), rises (fl : Int) fs = true → ∃ st, rlist stepF fs.length fl ((deltas (fl : Int) fs).flatMap cntI ++ r) = some ((fs, st), r)
  | [], fl, r, _ => ⟨fl, rfl⟩
  | f :: fs, fl, r, h => by
    simp only [rises, Bool.and_eq_true, decide_eq_true_eq] at h
    obtain ⟨⟨h1, h2⟩, h3⟩ := h
    have e : f + 1 = ((fl + (f - fl).toNat + 1 : Nat) : Int) := by omega
    rw [e] at h3
    obtain ⟨st, hst⟩ := facts_complete fs _ r h3
    refine ⟨st, ?_⟩
    rw [List.length_cons, rlist]
    simp only [deltas, List.flatMap_cons, List.append_assoc]
    have hs : stepF fl (cntI (f - (fl : Int)) ++ ((deltas (f + 1) fs).flatMap cntI ++ r)) = some ((f, fl + (f - fl).toNat + 1), (deltas (f + 1) fs).flatMap cntI ++ r) := by
      unfold stepF
      rw [rsm_cntI _ (by omega) (by omega) (by omega)]
      simp only
      congr 3
      omega
    rw [hs]
    simp only
    rw [e, hst]
theorem stepR_sound : ∀ (l : List UInt8) (x : Int) (u : Unit) (r : List UInt8), stepR () l = some ((x, u), r) → True → l = cntI x ++ r := by
  intro l x u r h _
  unfold stepR at h
  cases hm : rsm 100000 l with
  | none => rw [hm] at h; cases h
  | some p =>
    obtain ⟨m, q⟩ := p
    rw [hm] at h
    simp at h
    obtain ⟨rfl, rfl⟩ := h
    rw [((rsm_iff _ _ _ _ (by omega)).1 hm).1]
    simp [cntI]
theorem stepR_rk : ∀ (n : Nat) (l : List UInt8) (xs : List Int) (u : Unit) (r : List UInt8), rlist stepR n () l = some ((xs, u), r) → xs.all rk = true
  | 0, l, xs, u, r, h => by
    simp [rlist] at h
    rw [h.1]; rfl
  | n + 1, l, xs, u, r, h => by
    rw [rlist] at h
    cases hs : stepR () l with
    | none => rw [hs] at h; cases h
    | some p =>
      obtain ⟨⟨x, u1⟩, q⟩ := p
      rw [hs] at h
      simp only at h
      cases hq : rlist stepR n u1 q with
      | none => rw [hq] at h; cases h
      | some p2 =>
        obtain ⟨⟨ys, u2⟩, q2⟩ := p2
        rw [hq] at h
        simp at h
        obtain ⟨rfl, rfl⟩ := h
        have h1 := stepR_rk n q ys u2 q2 hq
        unfold stepR at hs
        cases hm : rsm 100000 l with
        | none => rw [hm] at hs; cases hs
        | some p3 =>
          obtain ⟨m, q3⟩ := p3
          rw [hm] at hs
          simp at hs
          obtain ⟨rfl, _⟩ := hs
          have := ((rsm_iff _ _ _ _ (by omega)).1 hm).2
          rw [List.all_cons, h1, Bool.and_true]
          simp [rk]
          omega
theorem rset_sound {g : Int} {l r : List UInt8} {n : Nd} (h : rset g l = some (n, r)) : l = setB n ++ r ∧ okSet g n = true ∧ n.facts.length ≤ l.length ∧ n.ranks.length ≤ n.facts.length := by
  unfold rset at h
  cases hm : rsm (l.length : Int) l with
  | none => rw [hm] at h; cases h
  | some p =>
    obtain ⟨k, q⟩ := p
    rw [hm] at h
    simp only at h
    have hlen : (k : Int) ≤ l.length := rsm_le hm
    have hcn : l = cnt k ++ q := by
      unfold rsm at hm
      cases hc : rc l with
      | none => rw [hc] at hm; cases hm
      | some pp =>
        obtain ⟨m, q'⟩ := pp
        rw [hc] at hm
        simp only at hm
        split at hm
        · simp at hm
          obtain ⟨rfl, rfl⟩ := hm
          exact ((rc_iff _ _ _).1 hc).1
        · cases hm
    cases hf : rlist stepF k 0 q with
    | none => rw [hf] at h; cases h
    | some p2 =>
      obtain ⟨⟨fs, st⟩, q2⟩ := p2
      rw [hf] at h
      simp only at h
      obtain ⟨h1, h2⟩ := facts_sound k 0 q fs st q2 hf
      have h3 := rlist_len _ _ _ _ _ _ _ hf
      by_cases hg : g = 1
      · rw [if_pos hg] at h
        cases hr : rlist stepR k () q2 with
        | none => rw [hr] at h; cases h
        | some p3 =>
          obtain ⟨⟨rs, u⟩, q3⟩ := p3
          rw [hr] at h
          simp at h
          obtain ⟨rfl, rfl⟩ := h
          have h4 := rlist_sound stepR cntI (fun _ => True) stepR_sound _ _ _ _ _ hr (fun _ _ => trivial)
          have h5 := rlist_len _ _ _ _ _ _ _ hr
          refine ⟨?_, ?_, ?_, ?_⟩
          · rw [hcn, h1, h4]
            simp [setB, h3]
          · have h6 := stepR_rk _ _ _ _ _ hr
            have h2' : rises 0 fs = true := h2
            simp only [okSet, okRanks, hg, if_true, h2', h6, h3, h5]
            simp
          · simp only; omega
          · simp only; omega
      · rw [if_neg hg] at h
        simp at h
        obtain ⟨rfl, rfl⟩ := h
        refine ⟨?_, ?_, ?_, ?_⟩
        · rw [hcn, h1]
          simp [setB, h3]
        · have h2' : rises 0 fs = true := h2
          simp [okSet, okRanks, hg, h2']
        · simp only; omega
        · simp
theorem flat_ge (f : Int → List UInt8) (h : ∀ x, 1 ≤ (f x).length) : ∀ (l : List Int), l.length ≤ (l.flatMap f).length
  | [] => by simp
  | x :: l => by
    have h1 := flat_ge f h l
    have h2 := h x
    simp only [List.flatMap_cons, List.length_append, List.length_cons]
    omega
theorem cnt_ge (n : Nat) : 1 ≤ (cnt n).length := by
  by_cases h : n < 128
  · rw [cnt_small h]; simp
  · rw [cnt_big h]; simp
theorem rset_complete {g : Int} {r : List UInt8} {n : Nd} (h : okSet g n = true) : rset g (setB n ++ r) = some (n, r) := by
  obtain ⟨fs, rs, re, k, vs⟩ := n
  simp only [okSet, Bool.and_eq_true, Bool.not_eq_true', decide_eq_true_eq, List.isEmpty_iff] at h
  obtain ⟨⟨⟨⟨rfl, rfl⟩, rfl⟩, h1⟩, h2⟩ := h
  unfold rset
  simp only [setB, List.append_assoc]
  have hl := rises_len h1
  have hm : rsm ((cnt fs.length ++ ((deltas 0 fs).flatMap cntI ++ (rs.flatMap cntI ++ r))).length : Int) (cnt fs.length ++ ((deltas 0 fs).flatMap cntI ++ (rs.flatMap cntI ++ r))) = some (fs.length, (deltas 0 fs).flatMap cntI ++ (rs.flatMap cntI ++ r)) := by
    unfold rsm
    rw [(rc_iff _ fs.length _).2 ⟨rfl, by omega⟩]
    simp only
    rw [if_pos]
    have h3 := flat_ge cntI (fun x => cnt_ge _) (deltas 0 fs)
    rw [deltas_len] at h3
    simp only [List.length_append]
    omega
  rw [hm]
  simp only
  obtain ⟨st, hst⟩ := facts_complete fs 0 (rs.flatMap cntI ++ r) h1
  rw [show ((0 : Nat) : Int) = 0 from rfl] at hst
  rw [hst]
  simp only
  unfold okRanks at h2
  by_cases hg : g = 1
  · rw [if_pos hg] at h2 ⊢
    simp only [Bool.and_eq_true, decide_eq_true_eq] at h2
    have h4 := rlist_complete stepR cntI rs r (fun x hx r => by
      have h5 := List.all_eq_true.1 h2.2 x hx
      simp only [rk, Bool.and_eq_true, decide_eq_true_eq] at h5
      unfold stepR
      rw [rsm_cntI r (by omega) (by omega) (by omega)]
      simp only
      congr 3
      omega)
    rw [h2.1] at h4
    rw [h4]
  · rw [if_neg hg] at h2 ⊢
    simp only [List.isEmpty_iff] at h2
    subst h2
    simp
theorem renv_sound {p g : Int} {l r : List UInt8} {n : Nd} (h : renv p g l = some (n, r)) (hok : okEnv p g n = true) : n.reached = true ∧ l = envB p g n ++ r := by
  unfold renv at h
  cases hk : rrank g l with
  | none => rw [hk] at h; cases h
  | some p1 =>
    obtain ⟨rk, l1⟩ := p1
    rw [hk] at h
    simp only at h
    cases hm : rsm 8 l1 with
    | none => rw [hm] at h; cases h
    | some p2 =>
      obtain ⟨k, l2⟩ := p2
      rw [hm] at h
      simp only at h
      cases hv : rlist (stepV p g) k () l2 with
      | none => rw [hv] at h; cases h
      | some p3 =>
        obtain ⟨⟨vs, u⟩, l3⟩ := p3
        rw [hv] at h
        simp at h
        obtain ⟨rfl, rfl⟩ := h
        refine ⟨rfl, ?_⟩
        simp only [okEnv, Bool.and_eq_true] at hok
        have hvs := List.all_eq_true.1 hok.2
        have h1 := rlist_sound (stepV p g) (valB p g) (fun v => okVal p g (rk : Int) v = true) (fun l x u r hs hP => by
          unfold stepV at hs
          by_cases h6 : p = 6
          · rw [if_pos h6] at hs
            cases hb : rbnd l with
            | none => rw [hb] at hs; cases hs
            | some p4 =>
              obtain ⟨v, q⟩ := p4
              rw [hb] at hs
              simp at hs
              obtain ⟨rfl, rfl⟩ := hs
              unfold okVal at hP
              rw [if_pos h6] at hP
              simp only [Bool.and_eq_true, decide_eq_true_eq] at hP
              rw [rbnd_sound hb hP.2]
              simp [valB, h6]
          · rw [if_neg h6] at hs
            cases hb : rval g l with
            | none => rw [hb] at hs; cases hs
            | some p4 =>
              obtain ⟨v, q⟩ := p4
              rw [hb] at hs
              simp at hs
              obtain ⟨rfl, rfl⟩ := hs
              exact rval_sound h6 hb) _ _ _ _ _ hv (fun v hv => hvs v hv)
        have h2 := rlist_len _ _ _ _ _ _ _ hv
        have h3 := (rsm_iff _ _ _ _ (by omega)).1 hm
        unfold rrank at hk
        by_cases hg : g = 1
        · rw [if_pos hg] at hk
          have h4 := (rsm_iff _ _ _ _ (by omega)).1 hk
          rw [h4.1, h3.1, h1]
          simp [envB, hg, h2, cntI]
        · rw [if_neg hg] at hk
          simp at hk
          obtain ⟨rfl, rfl⟩ := hk
          rw [h3.1, h1]
          simp [envB, hg, h2]
theorem renv_complete {p g : Int} {r : List UInt8} {n : Nd} (hok : okEnv p g n = true) (hre : n.reached = true) (hin : NdIn n) : renv p g (envB p g n ++ r) = some (n, r) := by
  obtain ⟨fs, rs, re, k, vs⟩ := n
  simp only [okEnv, Bool.and_eq_true, Bool.or_eq_true, decide_eq_true_eq, List.isEmpty_iff, rk] at hok
  obtain ⟨⟨⟨⟨⟨rfl, rfl⟩, h8⟩, hk⟩, hg0⟩, hvs⟩ := hok
  simp only at hre
  subst hre
  have hva := List.all_eq_true.1 hvs
  unfold renv
  simp only [envB, List.append_assoc]
  have h1 : rrank g ((if g = 1 then cntI k else []) ++ (cnt vs.length ++ (vs.flatMap (valB p g) ++ r))) = some (k.toNat, cnt vs.length ++ (vs.flatMap (valB p g) ++ r)) := by
    unfold rrank
    by_cases hg : g = 1
    · rw [if_pos hg, if_pos hg, rsm_cntI _ (by omega) (by omega) (by omega)]
    · rw [if_neg hg, if_neg hg]
      rcases hg0 with h | h
      · exact absurd h hg
      · rw [h]; rfl
  rw [h1]
  simp only
  rw [rsm_cnt _ (by omega) (by omega)]
  simp only
  rw [rlist_complete (stepV p g) (valB p g) vs r (fun v hv r => by
    have hov := hva v hv
    have hvi := hin.vals v hv
    unfold stepV
    by_cases h6 : p = 6
    · rw [if_pos h6]
      unfold okVal at hov
      rw [if_pos h6] at hov
      simp only [Bool.and_eq_true, Bool.not_eq_true', decide_eq_true_eq] at hov
      obtain ⟨⟨⟨⟨a1, a2⟩, a3⟩, a4⟩, a5⟩ := hov
      rw [show valB p g v = sgn v.lo ++ cnt (v.hi - v.lo).toNat by simp [valB, h6], rbnd_complete a1 a2 a3 a4 a5 hvi]
    · rw [if_neg h6, rval_complete h6 hov hk.1 hvi])]
  simp only
  congr 3
  omega
theorem rnode_sound {p g : Int} {l r : List UInt8} {n : Nd} (h : rnode p g l = some (n, r)) (hok : okNode p g n = true) : l = nodeB p g n ++ r := by
  unfold rnode at h
  unfold okNode at hok
  by_cases hp : p ≤ 4
  · rw [if_pos hp] at h hok
    rw [(rset_sound h).1]
    simp [nodeB, hp]
  · rw [if_neg hp] at h hok
    cases hf : rflag l with
    | none => rw [hf] at h; cases h
    | some p1 =>
      obtain ⟨f, q⟩ := p1
      rw [hf] at h
      rw [rflag_inv hf]
      cases f with
      | true =>
        simp only at h
        have hre : n.reached = true := by
          unfold renv at h
          split at h
          · split at h
            · split at h
              · simp at h; rw [← h.1]
              · cases h
            · cases h
          · cases h
        rw [if_pos hre] at hok
        obtain ⟨_, h2⟩ := renv_sound h hok
        rw [h2]
        simp [nodeB, hp, hre]
      | false =>
        simp at h
        obtain ⟨rfl, rfl⟩ := h
        simp [nodeB, hp, nd0b]
theorem rnode_complete {p g : Int} {r : List UInt8} {n : Nd} (hok : okNode p g n = true) (hin : NdIn n) : rnode p g (nodeB p g n ++ r) = some (n, r) := by
  unfold rnode nodeB
  unfold okNode at hok
  by_cases hp : p ≤ 4
  · rw [if_pos hp] at hok ⊢
    rw [if_pos hp]
    exact rset_complete hok
  · rw [if_neg hp] at hok ⊢
    rw [if_neg hp]
    by_cases hre : n.reached = true
    · rw [if_pos hre] at hok ⊢
      simp only [List.cons_append, rflag]
      rw [if_pos (by decide)]
      exact renv_complete hok hre hin
    · rw [if_neg hre] at hok ⊢
      simp only [List.cons_append, List.nil_append, rflag]
      rw [if_pos (by decide)]
      obtain ⟨fs, rs, re, k, vs⟩ := n
      simp only [okBare, Bool.and_eq_true, Bool.not_eq_true', decide_eq_true_eq, List.isEmpty_iff] at hok
      obtain ⟨⟨⟨⟨rfl, rfl⟩, rfl⟩, rfl⟩, rfl⟩ := hok
      rfl
end Go.Proofs.Ytmipbiligijcpaa
