/- The plain model of certificates: what one is, and its text; no Go in it. -/
namespace Go.Proofs.Ytncdjgnlleogbaa
set_option linter.unusedVariables false
set_option linter.unusedSimpArgs false

structure Vl where
  kind : Int
  lo : Int
  hi : Int
  early : Bool
  first : Int
  rank : Int
structure Nd where
  facts : List Int
  ranks : List Int
  reached : Bool
  rank : Int
  vals : List Vl
structure Ct where
  problem : Int
  grade : Int
  nodes : List Nd

def rk (n : Int) : Bool := decide (0 ≤ n) && decide (n ≤ 100000)
def rises : Int → List Int → Bool
  | _, [] => true
  | fl, f :: r => decide (fl ≤ f) && decide (f ≤ 100000) && rises (f + 1) r
def okRanks (g : Int) (ranks : List Int) (k : Nat) : Bool := if g = 1 then decide (ranks.length = k) && ranks.all rk else ranks.isEmpty
def okSet (g : Int) (n : Nd) : Bool := !n.reached && decide (n.rank = 0) && n.vals.isEmpty && rises 0 n.facts && okRanks g n.ranks n.facts.length
def okEarly (g r : Int) (v : Vl) : Bool := decide (g = 1) && decide (r < v.rank) && decide (v.rank ≤ 100000) && decide (v.kind = 2) && decide (v.lo = 0) && decide (v.hi = 0)
def okVal (p g r : Int) (v : Vl) : Bool :=
  if p = 6 then decide (v.kind = 3) && !v.early && decide (v.first = 0) && decide (v.rank = 0) && decide (v.lo ≤ v.hi)
  else if v.early then okEarly g r v
  else decide (v.kind = 1) && decide (v.hi = 0) && decide (v.first = 0) && decide (v.rank = 0) || decide (v.kind = 2) && decide (v.lo = 0) && decide (v.hi = 0) && decide (v.first = 0) && decide (v.rank = 0)
def okBare (n : Nd) : Bool := !n.reached && decide (n.rank = 0) && n.facts.isEmpty && n.ranks.isEmpty && n.vals.isEmpty
def okEnv (p g : Int) (n : Nd) : Bool := n.facts.isEmpty && n.ranks.isEmpty && decide (n.vals.length ≤ 8) && rk n.rank && (decide (g = 1) || decide (n.rank = 0)) && n.vals.all (okVal p g n.rank)
def okNode (p g : Int) (n : Nd) : Bool := if p ≤ 4 then okSet g n else if n.reached then okEnv p g n else okBare n
def known (p g : Int) : Bool := decide (1 ≤ p) && decide (p ≤ 6) && (decide (g = 2) || decide (g = 1) && !decide (p = 6))
def okC (c : Ct) : Bool := known c.problem c.grade && decide (c.nodes.length ≤ 60) && c.nodes.all (okNode c.problem c.grade)

/-- a count's bytes -/
def cnt (n : Nat) : List UInt8 := if h : n < 128 then [UInt8.ofNat n] else UInt8.ofNat (n % 128 + 128) :: cnt (n / 128)
def cntI (x : Int) : List UInt8 := cnt x.toNat
/-- a number as a count -/
def zig (x : Int) : Nat := if 0 ≤ x then (2 * x).toNat else (-2 * x - 1).toNat
def sgn (x : Int) : List UInt8 := cnt (zig x)
def deltas : Int → List Int → List Int
  | _, [] => []
  | fl, f :: r => (f - fl) :: deltas (f + 1) r
def setB (n : Nd) : List UInt8 := cnt n.facts.length ++ (deltas 0 n.facts).flatMap cntI ++ n.ranks.flatMap cntI
def valB (p g : Int) (v : Vl) : List UInt8 :=
  if p = 6 then sgn v.lo ++ cnt (v.hi - v.lo).toNat
  else if v.kind = 1 then 1 :: sgn v.lo
  else if g = 1 then (if v.early then 2 :: 1 :: (sgn v.first ++ cntI v.rank) else [2, 0])
  else [2]
def envB (p g : Int) (n : Nd) : List UInt8 := (if g = 1 then cntI n.rank else []) ++ cnt n.vals.length ++ n.vals.flatMap (valB p g)
def nodeB (p g : Int) (n : Nd) : List UInt8 := if p ≤ 4 then setB n else if n.reached then 1 :: envB p g n else [0]
def headB (c : Ct) : List UInt8 := [87, 67, 1, UInt8.ofNat c.problem.toNat, UInt8.ofNat c.grade.toNat] ++ cnt c.nodes.length
def encB (c : Ct) : List UInt8 := headB c ++ c.nodes.flatMap (nodeB c.problem c.grade)
def enc (c : Ct) : Option (List UInt8) := if okC c && decide ((encB c).length ≤ 60000) then some (encB c) else none

theorem cnt_small {n : Nat} (h : n < 128) : cnt n = [UInt8.ofNat n] := by rw [cnt, dif_pos h]
theorem cnt_big {n : Nat} (h : ¬ n < 128) : cnt n = UInt8.ofNat (n % 128 + 128) :: cnt (n / 128) := by rw [cnt, dif_neg h]
theorem cnt_le : ∀ (k n : Nat), n < 128 ^ k → (cnt n).length ≤ k ∨ k = 0
  | 0, n, h => Or.inr rfl
  | k + 1, n, h => by
    left
    by_cases hn : n < 128
    · rw [cnt_small hn]; simp
    · rw [cnt_big hn]
      have h1 : n / 128 < 128 ^ k := by rw [Nat.pow_succ] at h; omega
      rcases cnt_le k _ h1 with h2 | h2
      · simp; exact h2
      · subst h2; simp at h1; omega
theorem cnt_le10 {n : Nat} (h : n < 18446744073709551616) : (cnt n).length ≤ 10 := by
  rcases cnt_le 10 n (by omega) with h | h
  · exact h
  · omega
theorem flat_len {α : Type} (f : α → List UInt8) (k : Nat) : ∀ (l : List α), (∀ x ∈ l, (f x).length ≤ k) → (l.flatMap f).length ≤ l.length * k
  | [], _ => by simp
  | a :: l, h => by
    have h1 := h a (by simp)
    have h2 := flat_len f k l (fun x hx => h x (by simp [hx]))
    simp only [List.flatMap_cons, List.length_append, List.length_cons, Nat.add_mul]
    omega
theorem flat_take {α : Type} (f : α → List UInt8) (l : List α) (k : Nat) (x : α) (h : l[k]? = some x) : (l.take (k + 1)).flatMap f = (l.take k).flatMap f ++ f x := by
  have hl := List.getElem?_eq_some_iff.1 h
  rw [List.take_succ_eq_append_getElem hl.1, hl.2]
  simp
theorem rises_take : ∀ (fs : List Int) (fl : Int), rises fl fs = true → (fs.length : Int) + fl ≤ 100001 ∨ fs = []
  | [], _, _ => Or.inr rfl
  | f :: r, fl, h => by
    left
    simp [rises] at h
    obtain ⟨⟨h1, h2⟩, h3⟩ := h
    rcases rises_take r (f + 1) h3 with h4 | h4
    · simp; omega
    · subst h4; simp; omega
theorem rises_len {fs : List Int} (h : rises 0 fs = true) : fs.length ≤ 100001 := by
  rcases rises_take fs 0 h with h | h
  · omega
  · subst h; simp
end Go.Proofs.Ytncdjgnlleogbaa
