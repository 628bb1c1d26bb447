/- The document's reader: numbers, small counts, bytes. -/
import Derived.Test.YtmipbiligijcpaaJ4
import Derived.Test.YtmipbiligijcpaaH7
import Derived.Test.YtmipbiligijcpaaD2
import Derived.Deep.RegionHeld3
import Derived.Deep.RegionLaw
import Derived.Deep.QuietTactic
import Derived.BigQuiet
import Derived.Deep.Cut
import Derived.Lib.Strings
import Derived.Test.YtmipbiligijcpaaN4
namespace Go.Proofs.Ytmipbiligijcpaa
set_option linter.unusedVariables false
set_option linter.unusedSimpArgs false
open Go.RowKit Go.Proofs Go.Maps

def bval : List UInt8 → Nat
  | [] => 0
  | b :: r => b.toNat % 128 + 128 * bval r
theorem bval_cnt : ∀ (m n : Nat), n ≤ m → bval (cnt n) = n := by
  intro m
  induction m with
  | zero => intro n hn; obtain rfl : n = 0 := by omega
            rw [cnt_small (by omega)]; rfl
  | succ m ih =>
    intro n hn
    by_cases h : n < 128
    · rw [cnt_small h]
      simp only [bval, UInt8.toNat_ofNat']
      omega
    · rw [cnt_big h]
      simp only [bval, UInt8.toNat_ofNat']
      rw [ih (n / 128) (by omega)]
      omega
def hiAll (l : List UInt8) : Prop := ∀ x ∈ l, 128 ≤ x.toNat
theorem cnt_shape : ∀ (m n : Nat), n ≤ m → ∃ (h : List UInt8) (b : UInt8), cnt n = h ++ [b] ∧ hiAll h ∧ b.toNat < 128 := by
  intro m
  induction m with
  | zero => intro n hn; obtain rfl : n = 0 := by omega
            exact ⟨[], UInt8.ofNat 0, cnt_small (by omega), (fun x hx => by cases hx), by decide⟩
  | succ m ih =>
    intro n hn
    by_cases h : n < 128
    · exact ⟨[], UInt8.ofNat n, cnt_small h, (fun x hx => by cases hx), by simp only [UInt8.toNat_ofNat']; omega⟩
    · obtain ⟨h', b, e1, e2, e3⟩ := ih (n / 128) (by omega)
      refine ⟨UInt8.ofNat (n % 128 + 128) :: h', b, by rw [cnt_big h, e1]; rfl, ?_, e3⟩
      intro x hx
      rcases List.mem_cons.1 hx with rfl | hx
      · simp only [UInt8.toNat_ofNat']; omega
      · exact e2 x hx
theorem split_one : ∀ (h h' : List UInt8) (b b' : UInt8) (r r' : List UInt8), hiAll h → hiAll h' → b.toNat < 128 → b'.toNat < 128 → h ++ b :: r = h' ++ b' :: r' → h = h' ∧ b = b' ∧ r = r'
  | [], [], b, b', r, r', _, _, _, _, e => by simp at e; exact ⟨rfl, e.1, e.2⟩
  | [], x :: h', b, b', r, r', _, h2, h3, _, e => by
    simp at e
    have := h2 x (by simp)
    rw [← e.1] at this
    omega
  | x :: h, [], b, b', r, r', h1, _, _, h4, e => by
    simp at e
    have := h1 x (by simp)
    rw [e.1] at this
    omega
  | x :: h, y :: h', b, b', r, r', h1, h2, h3, h4, e => by
    simp at e
    obtain ⟨e1, e2⟩ := e
    obtain ⟨e3, e4, e5⟩ := split_one h h' b b' r r' (fun z hz => h1 z (by simp [hz])) (fun z hz => h2 z (by simp [hz])) h3 h4 e2
    exact ⟨by rw [e1, e3], e4, e5⟩
/-- where the first small byte stands, a count is told -/
theorem rc_at (h : List UInt8) (b : UInt8) (r : List UInt8) (hh : hiAll h) (hb : b.toNat < 128) : rc (h ++ b :: r) = if cnt (bval (h ++ [b]) % 18446744073709551616) = h ++ [b] then some (bval (h ++ [b]) % 18446744073709551616, r) else none := by
  by_cases hc : cnt (bval (h ++ [b]) % 18446744073709551616) = h ++ [b]
  · rw [if_pos hc]
    rw [rc_iff]
    exact ⟨by rw [hc]; simp, Nat.mod_lt _ (by omega)⟩
  · rw [if_neg hc]
    cases hr : rc (h ++ b :: r) with
    | none => rfl
    | some p =>
      exfalso
      obtain ⟨m, q⟩ := p
      obtain ⟨h1, h2⟩ := (rc_iff _ _ _).1 hr
      obtain ⟨h', b', e1, e2, e3⟩ := cnt_shape m m (Nat.le_refl _)
      rw [e1, List.append_assoc] at h1
      obtain ⟨f1, f2, f3⟩ := split_one h h' b b' r q hh e2 hb e3 h1
      apply hc
      have : h ++ [b] = cnt m := by rw [e1, f1, f2]
      rw [this, bval_cnt m m (Nat.le_refl _), Nat.mod_eq_of_lt h2]
theorem rc_no (h : List UInt8) (hh : hiAll h) : rc h = none := by
  cases hr : rc h with
  | none => rfl
  | some p =>
    exfalso
    obtain ⟨m, q⟩ := p
    obtain ⟨h1, h2⟩ := (rc_iff _ _ _).1 hr
    obtain ⟨h', b', e1, e2, e3⟩ := cnt_shape m m (Nat.le_refl _)
    have := hh b' (by rw [h1, e1]; simp)
    omega
theorem rc_long (h : List UInt8) (b : UInt8) (r : List UInt8) (hh : hiAll h) (hb : b.toNat < 128) (hl : 9 < h.length) : rc (h ++ b :: r) = none := by
  cases hr : rc (h ++ b :: r) with
  | none => rfl
  | some p =>
    exfalso
    obtain ⟨m, q⟩ := p
    obtain ⟨h1, h2⟩ := (rc_iff _ _ _).1 hr
    obtain ⟨h', b', e1, e2, e3⟩ := cnt_shape m m (Nat.le_refl _)
    have h3 := cnt_le10 h2
    rw [e1] at h1 h3
    rw [List.append_assoc] at h1
    obtain ⟨f1, f2, f3⟩ := split_one h h' b b' r q hh e2 hb e3 h1
    rw [← f1] at h3
    simp at h3
    omega
/-- block rb is the document's reader -/
def DRd (w : World) (rb : Nat) (s : ByteArray) (at' : Nat) (bad : Bool) : Prop := w.heap[rb]? = some (.cells #[.string s, .int .i64 (at' : Int), .bool bad] 70 (0, 0))
theorem DRd.grown {w w' : World} {rb a : Nat} {s : ByteArray} {bad : Bool} {row : Option Nat} (h : DRd w rb s a bad) (hg : w.grownBy w' row) (hr : some rb ≠ row) : DRd w' rb s a bad := (hg.block rb (Array.getElem?_eq_some_iff.1 h).1 hr).trans h
theorem drd_set {w : World} {b o : Nat} {cs : Array Value} {t : TypeId} (h : w.heap[b]? = some (.cells cs t (0, 0))) (v : Value) : (w.setCell ⟨b, o, none⟩ v).heap[b]? = some (.cells (cs.setIfInBounds o v) t (0, 0)) := by
  simp [World.setCell, Array.getElem?_modify, h]
theorem grown_dr {a b : World} {row : Option Nat} (h : a.grownBy b row) (n : Nat) : a.grownBy (b.drewN n) row := ⟨h.os, h.tape, h.output, h.size, h.block⟩
theorem grown_rf (w : World) (row : Option Nat) : w.grownBy w row := ⟨rfl, rfl, rfl, Nat.le_refl _, fun _ _ _ => rfl⟩
/-- the bytes from fr, the first k of them great -/
def Gr (s : ByteArray) (fr k : Nat) : Prop := hiAll ((s.data.toList.drop fr).take k)
theorem Gr.more {s : ByteArray} {fr a : Nat} (h : Gr s fr (a - fr)) (hfa : fr ≤ a) (hk : a < s.size) (hb : 128 ≤ (s[a]'hk).toNat) : Gr s fr (a + 1 - fr) := by
  obtain ⟨k, rfl⟩ : ∃ k, a = fr + k := ⟨a - fr, by omega⟩
  rw [show fr + k - fr = k by omega] at h
  rw [show fr + k + 1 - fr = k + 1 by omega]
  have hl : s.data.toList.length = s.size := rfl
  have hlt : k < (s.data.toList.drop fr).length := by rw [List.length_drop]; omega
  intro x hx
  rw [List.take_succ_eq_append_getElem hlt] at hx
  rcases List.mem_append.1 hx with hx | hx
  · exact h x hx
  · simp at hx
    subst hx
    exact hb
theorem drop_split {s : ByteArray} {fr a : Nat} (hfa : fr ≤ a) (hk : a < s.size) : s.data.toList.drop fr = (s.data.toList.drop fr).take (a - fr) ++ (s[a]'hk) :: s.data.toList.drop (a + 1) := by
  have hl : s.data.toList.length = s.size := rfl
  have h1 : a - fr < (s.data.toList.drop fr).length := by rw [List.length_drop]; omega
  have h2 : (s.data.toList.drop fr).drop (a - fr) = (s[a]'hk) :: s.data.toList.drop (a + 1) := by
    rw [List.drop_eq_getElem_cons h1]
    congr 1
    · rw [List.getElem_drop]
      have : fr + (a - fr) = a := by omega
      simp only [this]
      rfl
    · rw [List.drop_drop]
      congr 1
      omega
  conv => lhs; rw [← List.take_append_drop (a - fr) (s.data.toList.drop fr), h2]
/-- the bytes from fr to a -/
def seg (s : ByteArray) (fr a : Nat) : List UInt8 := (s.data.toList.drop fr).take (a - fr + 1)
theorem seg_eq {s : ByteArray} {fr a : Nat} (hfa : fr ≤ a) (hk : a < s.size) : seg s fr a = (s.data.toList.drop fr).take (a - fr) ++ [s[a]'hk] := by
  have hl : s.data.toList.length = s.size := rfl
  have h1 : a - fr < (s.data.toList.drop fr).length := by rw [List.length_drop]; omega
  unfold seg
  rw [List.take_succ_eq_append_getElem h1, List.getElem_drop]
  have : fr + (a - fr) = a := by omega
  simp only [this]
  rfl
theorem seg_len {s : ByteArray} {fr a : Nat} (hfa : fr ≤ a) (hk : a < s.size) : (seg s fr a).length = a - fr + 1 := by
  have hl : s.data.toList.length = s.size := rfl
  unfold seg
  rw [List.length_take, List.length_drop]
  omega
theorem seg_drop {s : ByteArray} {fr a q : Nat} (hfq : fr ≤ q) (hqa : q ≤ a) (hk : a < s.size) : (seg s fr a).drop (q - fr) = (s[q]'(by omega)) :: (seg s fr a).drop (q + 1 - fr) := by
  have hl : s.data.toList.length = s.size := rfl
  have h1 : q - fr < ((s.data.toList.drop fr).take (a - fr + 1)).length := by rw [List.length_take, List.length_drop]; omega
  unfold seg
  rw [List.drop_eq_getElem_cons h1]
  congr 1
  · rw [List.getElem_take, List.getElem_drop]
    have : fr + (q - fr) = q := by omega
    simp only [this]
    rfl
  · congr 1
    omega
/-- what was read, and where the reader stands then -/
structure DrK {α : Type} (s : ByteArray) (a : Nat) (bad : Bool) (p : List UInt8 → Option (α × List UInt8)) (v : α) (a' : Nat) (bad' : Bool) : Prop where
  le : a ≤ a'
  sz : a' ≤ s.size
  how : (bad' = false ∧ bad = false ∧ p (s.data.toList.drop a) = some (v, s.data.toList.drop a')) ∨ (bad' = true ∧ (bad = true ∨ p (s.data.toList.drop a) = none))
theorem cell_at {W : World} {rb a : Nat} {s : ByteArray} {bad : Bool} (h : DRd W rb s a bad) : (intOf ((W.cell? ⟨rb, 1, none⟩).getD (.int .i64 0))).toNat = a := by
  rw [(box_cells h).1 1]
  simp [intOf]
set_option maxHeartbeats 1000000 in
set_option maxRecDepth 100000 in
theorem dcount_any (rb fr : Nat) (s : ByteArray) (bad : Bool) (w : World) (h : DRd w rb s fr bad) (hf : fr ≤ s.size) (hs : s.size ≤ 60000) :
    Calls Try.prog 45 #[.pointer (some ⟨rb, 0, none⟩)] w fun e w' => ∃ (n a' : Nat) (bad' : Bool), e = .returned (.int .u64 (n : Int)) ∧ n < 18446744073709551616 ∧ DrK s fr bad rc n a' bad' ∧ DRd w' rb s a' bad' ∧ w.grownBy w' (some rb) := by
  have HR := (show Hid _ from h)
  have hlt := (Array.getElem?_eq_some_iff.1 h).1
  obtain ⟨x1, x2⟩ := box_cells h
  clear h
  go_enter Try.func45, Try.ntmps45
  go_wp2_with fail
  clear x1 x2
  go_loopw [] (fun wr => ∃ a : Nat, fr ≤ a ∧ a ≤ s.size ∧ Hid (Gr s fr (a - fr)) ∧ Hid (DRd wr rb s a bad ∧ w.grownBy wr (some rb))) (fun wr => s.size - (intOf ((wr.cell? ⟨rb, 1, none⟩).getD (.int .i64 0))).toNat)
  case atStart => exact ⟨fr, Nat.le_refl _, hf, (fun x hx => by simp at hx), HR.out, grown_rf _ _⟩
  case round =>
    obtain ⟨a, hfa, ha, HG, HD⟩ := hrel
    obtain ⟨x1, x2⟩ := box_cells HD.out.1
    by_cases hlt1 : a < s.size
    · have hl2 : (a : Int) < (s.size : Int) := by omega
      have hb256 := UInt8.toNat_lt s[a]
      by_cases hb : 128 ≤ s[a].toNat
      · have hb2 : (128 : Int) ≤ (s[a].toNat : Int) := by omega
        have HM := (show Hid _ from HG.out.more hfa hlt1 hb)
        go_wp2_with fail
        go_quiet (fail)
        go_wp2_with fail
        have hd : DRd ((wr.drewN nq).setCell ⟨rb, 1, none⟩ (.int .i64 ((a : Int) + 1))) rb s (a + 1) bad := drd_set (show (wr.drewN nq).heap[rb]? = _ from HD.out.1) _
        refine ⟨⟨a + 1, by omega, by omega, HM, hd, (grown_dr HD.out.2 _).trans (grown_self _ _ _ _)⟩, ?_⟩
        rw [cell_at hd, cell_at HD.out.1]
        omega
      · have hb2 : ¬ (128 : Int) ≤ (s[a].toNat : Int) := by omega
        go_wp2_with fail
        go_quiet (fail)
        go_wp2_with fail
        have hl4 : decide ((s.size : Int) ≤ (a : Int)) = false := decide_eq_false (by omega)
        have hns : ¬ s.size ≤ a := by omega
        have hwr : IntKind.i64.wrap ((a : Int) - (fr : Int)) = (a : Int) - (fr : Int) := by simp [IntKind.wrap, IntKind.bits, IntKind.signed]; omega
        by_cases h9 : 9 < a - fr
        · have h9i : (9 : Int) < IntKind.i64.wrap ((a : Int) - (fr : Int)) := by rw [hwr]; omega
          clear hwr
          go_quiet (fail)
          go_wp2_with fail
          go_ret
          refine ⟨0, a, true, rfl, by omega, ⟨hfa, ha, Or.inr ⟨rfl, Or.inr ?_⟩⟩, drd_set (show (wr.drewN _).heap[rb]? = _ from HD.out.1) _, (grown_dr HD.out.2 _).trans (grown_self _ _ _ _)⟩
          rw [drop_split hfa hlt1]
          exact rc_long _ _ _ HG.out (by omega) (by have hl : s.data.toList.length = s.size := rfl; rw [List.length_take, List.length_drop]; omega)
        · have h9i : ¬ (9 : Int) < IntKind.i64.wrap ((a : Int) - (fr : Int)) := by rw [hwr]; omega
          clear hwr
          go_quiet (fail)
          go_wp2_with fail
          clear x1 x2
          go_loopw [4, 5] (fun nv iv wr2 => ∃ (x : Int) (n : Nat), (fr : Int) - 1 ≤ x ∧ x ≤ (a : Int) ∧ iv = .int .i64 x ∧ nv = .int .u64 (n : Int) ∧ Hid (n = bval ((seg s fr a).drop (x + 1 - (fr : Int)).toNat) % 18446744073709551616) ∧ Hid (DRd wr2 rb s a bad ∧ w.grownBy wr2 (some rb))) (fun _ iv _ => (intOf iv + 1 - (fr : Int)).toNat)
          case atStart =>
            refine ⟨a, 0, by omega, by omega, rfl, rfl, ?_, HD.out.1, grown_dr HD.out.2 _⟩
            show 0 = _
            rw [List.drop_of_length_le (by rw [seg_len hfa hlt1]; omega)]
            rfl
          case round =>
            obtain ⟨x, n, hx1, hx2, rfl, rfl, HN, HE⟩ := hrel
            obtain ⟨x1, x2⟩ := box_cells HE.out.1
            have hn64 : n < 18446744073709551616 := by rw [HN.out]; exact Nat.mod_lt _ (by omega)
            by_cases hq : (fr : Int) ≤ x
            · obtain ⟨q, rfl⟩ : ∃ q : Nat, x = (q : Int) := ⟨x.toNat, by omega⟩
              have hqs : q < s.size := by omega
              have hqi : (q : Int) < (s.size : Int) := by omega
              have hb3 := UInt8.toNat_lt s[q]
              go_wp2_with fail
              refine ⟨⟨(q : Int) - 1, (128 * n + s[q].toNat % 128) % 18446744073709551616, by omega, by omega, rfl, ?_, ?_, HE.out.1, HE.out.2⟩, by simp [intOf]; omega⟩
              · congr 1
                simp [IntKind.wrap, IntKind.bits, IntKind.signed]
              · show _ = _
                rw [show ((q : Int) - 1 + 1 - (fr : Int)).toNat = q - fr by omega, seg_drop (by omega) (by omega) hlt1]
                have hN := HN.out
                rw [show ((q : Int) + 1 - (fr : Int)).toNat = q + 1 - fr by omega] at hN
                simp only [bval]
                omega
            · go_wp2_with fail
              obtain rfl : x = (fr : Int) - 1 := by omega
              have hN : n = bval (seg s fr a) % 18446744073709551616 := by
                have := HN.out
                rw [show ((fr : Int) - 1 + 1 - (fr : Int)).toNat = 0 by omega] at this
                exact this
              clear HN x1 x2
              obtain ⟨V, hV⟩ : ∃ V, V = wr.setCell ⟨rb, 1, none⟩ (.int .i64 ((a : Int) + 1)) := ⟨_, rfl⟩
              rw [← hV]
              have hd : DRd V rb s (a + 1) bad := by rw [hV]; exact drd_set HE.out.1 _
              have hg : w.grownBy V (some rb) := by rw [hV]; exact HE.out.2.trans (grown_self _ _ _ _)
              refine (rcount_any n n (Nat.le_refl _) hn64 V).mono ?_
              rintro e W2 ⟨v, rfl, hown, hbel⟩
              have hd2 : DRd W2 rb s (a + 1) bad := (hbel.block rb (Array.getElem?_eq_some_iff.1 hd).1).trans hd
              have hg2 : w.grownBy W2 (some rb) := hg.trans ⟨hbel.os, hbel.tape, hbel.output, hbel.size, fun k hk _ => hbel.block k hk⟩
              have hkq : ∃ a5 c5, v = .slice (some a5) (cnt n).length c5 ∧ ∀ q, (convert 64 9 (.slice (some a5) (cnt n).length c5)).run Try.prog (W2.drewN q) = .ok (.string ⟨(cnt n).toArray⟩) (W2.drewN q) := by
                obtain ⟨a5, c5, e5, _⟩ := conv_back hown (cnt_ne n)
                refine ⟨a5, c5, e5, fun q => ?_⟩
                obtain ⟨a6, c6, e6, k6⟩ := conv_back (own_drewN hown q) (cnt_ne n)
                rw [e5] at e6
                cases e6
                exact k6
              obtain ⟨a5, c5, rfl, kc⟩ := hkq
              have kc0 := kc 0
              have hi1 : (fr : Int) ≤ ((a + 1 : Nat) : Int) := by omega
              have hi2 : ((a + 1 : Nat) : Int) ≤ (s.size : Int) := by omega
              have hi3 : (fr : Int) ≤ (a : Int) + 1 := by omega
              have hi4 : (a : Int) + 1 ≤ (s.size : Int) := by omega
              have H2 := (show Hid _ from And.intro hd2 (And.intro hg2 (And.intro hN hown)))
              obtain ⟨x1, x2⟩ := box_cells hd2
              clear hV hd hg hown hbel hd2 hg2 hN
              go_wp2_with fail
              go_quiet (fail)
              go_wp2_with fail
              all_goals
                rename_i hcmp
                rw [Lib.extract_toList, show a + 1 - fr = a - fr + 1 by omega] at hcmp
                have hcmp2 : (!cnt n == seg s fr a) = _ := hcmp
                rw [Bool.not_eq_eq_eq_not] at hcmp2
              · have he : ¬ cnt n = seg s fr a := by simpa using hcmp2
                go_ret
                refine ⟨0, a + 1, true, rfl, by omega, ⟨by omega, by omega, Or.inr ⟨rfl, Or.inr ?_⟩⟩, drd_set (show (W2.drewN _).heap[rb]? = _ from H2.out.1) _, (grown_dr H2.out.2.1 _).trans (grown_self _ _ _ _)⟩
                have hrc := rc_at ((s.data.toList.drop fr).take (a - fr)) (s[a]) (s.data.toList.drop (a + 1)) HG.out (by omega)
                rw [← drop_split hfa hlt1, ← seg_eq hfa hlt1, ← H2.out.2.2.1, if_neg he] at hrc
                exact hrc
              · have he : cnt n = seg s fr a := by simpa using hcmp2
                go_ret
                refine ⟨n, a + 1, bad, rfl, hn64, ⟨by omega, by omega, ?_⟩, H2.out.1, grown_dr H2.out.2.1 _⟩
                have hrc := rc_at ((s.data.toList.drop fr).take (a - fr)) (s[a]) (s.data.toList.drop (a + 1)) HG.out (by omega)
                rw [← drop_split hfa hlt1, ← seg_eq hfa hlt1, ← H2.out.2.2.1, if_pos he] at hrc
                cases bad with
                | true => exact Or.inr ⟨rfl, Or.inl rfl⟩
                | false => exact Or.inl ⟨rfl, rfl, hrc⟩
    · have hl2 : ¬ (a : Int) < (s.size : Int) := by omega
      have hl3 : decide ((a : Int) < (s.size : Int)) = false := decide_eq_false hl2
      go_wp2_with fail
      go_quiet (fail)
      go_wp2_with fail
      have hl4 : decide ((s.size : Int) ≤ (a : Int)) = true := decide_eq_true (by omega)
      go_quiet (fail)
      go_wp2_with fail
      go_ret
      refine ⟨0, a, true, rfl, by omega, ⟨hfa, ha, Or.inr ⟨rfl, Or.inr ?_⟩⟩, drd_set (show (wr.drewN _).heap[rb]? = _ from HD.out.1) _, (grown_dr HD.out.2 _).trans (grown_self _ _ _ _)⟩
      have hl : s.data.toList.length = s.size := rfl
      have hg := HG.out
      unfold Gr at hg
      rw [List.take_of_length_le (by rw [List.length_drop]; omega)] at hg
      exact rc_no _ hg
end Go.Proofs.Ytmipbiligijcpaa
namespace Go.Proofs.Ytmipbiligijcpaa
set_option linter.unusedVariables false
set_option linter.unusedSimpArgs false
open Go.RowKit Go.Proofs Go.Maps

theorem unz_in {n : Nat} (h : n < 18446744073709551616) : I64 (unz n) := by
  unfold unz I64
  split <;> omega
set_option maxHeartbeats 1000000 in
theorem dsigned_any (rb a : Nat) (s : ByteArray) (bad : Bool) (w : World) (h : DRd w rb s a bad) (hf : a ≤ s.size) (hs : s.size ≤ 60000) :
    Calls Try.prog 62 #[.pointer (some ⟨rb, 0, none⟩)] w fun e w' => ∃ (x : Int) (a' : Nat) (bad' : Bool), e = .returned (.int .i64 x) ∧ I64 x ∧ DrK s a bad rnum x a' bad' ∧ DRd w' rb s a' bad' ∧ w.grownBy w' (some rb) := by
  have hc := dcount_any rb a s bad w h hf hs
  have HC := (show Hid _ from hc)
  clear h hc
  go_enter Try.func62, Try.ntmps62
  go_wp2_with fail
  refine Calls.mono HC.out ?_
  rintro e W1 ⟨n, a', bad', rfl, hn, hk, hd, hg⟩
  have hx := unz_in hn
  have HK : Hid (DrK s a bad rnum (unz n) a' bad' ∧ DRd W1 rb s a' bad' ∧ w.grownBy W1 (some rb) ∧ I64 (unz n)) := by
    refine ⟨⟨hk.le, hk.sz, ?_⟩, hd, hg, hx⟩
    unfold rnum
    rcases hk.how with ⟨h1, h2, h3⟩ | ⟨h1, h2⟩
    · exact Or.inl ⟨h1, h2, by rw [h3]⟩
    · refine Or.inr ⟨h1, ?_⟩
      rcases h2 with h2 | h2
      · exact Or.inl h2
      · right; rw [h2]
  clear hk hd hg hx
  by_cases h2 : n % 2 = 0
  · have h2i : ((n : Int) % 2 == 0) = true := by rw [beq_iff_eq]; omega
    go_wp2_with fail
    go_ret
    refine ⟨unz n, a', bad', ?_, HK.out.2.2.2, HK.out.1, HK.out.2.1, HK.out.2.2.1⟩
    show Ending.returned (.int .i64 ((n : Int) / 2)) = _
    rw [show unz n = (n : Int) / 2 by unfold unz; rw [if_pos h2]; omega]
  · have h2i : ((n : Int) % 2 == 0) = false := by rw [beq_eq_false_iff_ne]; omega
    go_wp2_with fail
    go_ret
    refine ⟨unz n, a', bad', ?_, HK.out.2.2.2, HK.out.1, HK.out.2.1, HK.out.2.2.1⟩
    show Ending.returned (.int .i64 (-((n : Int) / 2) - 1)) = _
    rw [show unz n = -((n : Int) / 2) - 1 by unfold unz; rw [if_neg h2]; omega]
set_option maxHeartbeats 1000000 in
theorem dmost_any (rb a k : Nat) (s : ByteArray) (bad : Bool) (w : World) (h : DRd w rb s a bad) (hf : a ≤ s.size) (hs : s.size ≤ 60000) (hk : k ≤ 100000) :
    Calls Try.prog 29 #[.pointer (some ⟨rb, 0, none⟩), .int .i64 (k : Int)] w fun e w' => ∃ (n a' : Nat) (bad' : Bool), e = .returned (.int .i64 (n : Int)) ∧ n ≤ k ∧ DrK s a bad (rsm (k : Int)) n a' bad' ∧ DRd w' rb s a' bad' ∧ w.grownBy w' (some rb) := by
  have hc := dcount_any rb a s bad w h hf hs
  have HC := (show Hid _ from hc)
  clear h hc
  go_enter Try.func29, Try.ntmps29
  go_wp2_with fail
  refine Calls.mono HC.out ?_
  rintro e W1 ⟨n, a', bad', rfl, hn, hkk, hd, hg⟩
  by_cases hle : n ≤ k
  · have hlei : ¬ ((k : Int) < (n : Int)) := by omega
    have HK : Hid (DrK s a bad (rsm (k : Int)) n a' bad' ∧ DRd W1 rb s a' bad' ∧ w.grownBy W1 (some rb)) := by
      refine ⟨⟨hkk.le, hkk.sz, ?_⟩, hd, hg⟩
      unfold rsm
      rcases hkk.how with ⟨h1, h2, h3⟩ | ⟨h1, h2⟩
      · exact Or.inl ⟨h1, h2, by rw [h3]; simp only; rw [if_pos (by omega)]⟩
      · refine Or.inr ⟨h1, ?_⟩
        rcases h2 with h2 | h2
        · exact Or.inl h2
        · right; rw [h2]
    clear hkk hd hg
    go_wp2_with fail
    go_ret
    refine ⟨n, a', bad', ?_, hle, HK.out.1, HK.out.2.1, HK.out.2.2⟩
    rfl
  · have hlei : ((k : Int) < (n : Int)) := by omega
    have HK : Hid (DrK s a bad (rsm (k : Int)) 0 a' true ∧ DRd W1 rb s a' bad' ∧ w.grownBy W1 (some rb)) := by
      refine ⟨⟨hkk.le, hkk.sz, Or.inr ⟨rfl, ?_⟩⟩, hd, hg⟩
      unfold rsm
      rcases hkk.how with ⟨h1, h2, h3⟩ | ⟨h1, h2⟩
      · right; rw [h3]; simp only; rw [if_neg (by omega)]
      · rcases h2 with h2 | h2
        · exact Or.inl h2
        · right; rw [h2]
    obtain ⟨x1, x2⟩ := box_cells hd
    clear hkk hd hg
    go_wp2_with fail
    go_ret
    exact ⟨0, a', true, rfl, by omega, HK.out.1, drd_set HK.out.2.1 _, HK.out.2.2.trans (grown_self _ _ _ _)⟩
set_option maxHeartbeats 1000000 in
theorem dbyte_any (rb a : Nat) (s : ByteArray) (bad : Bool) (w : World) (h : DRd w rb s a bad) (hf : a ≤ s.size) (hs : s.size ≤ 60000) :
    Calls Try.prog 63 #[.pointer (some ⟨rb, 0, none⟩)] w fun e w' => ∃ (b : UInt8) (a' : Nat) (bad' : Bool), e = .returned (.int .i64 (b.toNat : Int)) ∧ DrK s a bad roct b a' bad' ∧ DRd w' rb s a' bad' ∧ w.grownBy w' (some rb) := by
  have HR := (show Hid _ from h)
  obtain ⟨x1, x2⟩ := box_cells h
  clear h
  by_cases hlt : a < s.size
  · have hl2 : ¬ (s.size : Int) ≤ (a : Int) := by omega
    have hl3 : (a : Int) < (s.size : Int) := by omega
    have hb := UInt8.toNat_lt s[a]
    go_enter Try.func63, Try.ntmps63
    go_wp2_with fail
    go_quiet (fail)
    go_wp2_with fail
    obtain ⟨V, hV⟩ : ∃ V, V = (w.drewN nq).setCell ⟨rb, 1, none⟩ (.int .i64 ((a : Int) + 1)) := ⟨_, rfl⟩
    rw [← hV]
    have hd : V.heap[rb]? = some (.cells #[.string s, .int .i64 ((a : Int) + 1), .bool bad] 70 (0, 0)) := by rw [hV]; exact drd_set (show (w.drewN nq).heap[rb]? = _ from HR.out) _
    have hg : w.grownBy V (some rb) := by rw [hV]; exact (grown_dr (grown_rf w _) _).trans (grown_self _ _ _ _)
    have H1 := (show Hid _ from And.intro hd hg)
    clear x1 x2
    obtain ⟨x1, x2⟩ := box_cells hd
    clear hd hg hV
    go_quiet (fail)
    go_wp2_with fail
    go_ret
    refine ⟨s[a], a + 1, bad, rfl, ⟨by omega, by omega, ?_⟩, H1.out.1, grown_dr H1.out.2 _⟩
    cases bad with
    | true => exact Or.inr ⟨rfl, Or.inl rfl⟩
    | false =>
      refine Or.inl ⟨rfl, rfl, ?_⟩
      have := drop_split (Nat.le_refl a) hlt
      rw [Nat.sub_self, List.take_zero, List.nil_append] at this
      rw [this]
      rfl
  · have hl2 : (s.size : Int) ≤ (a : Int) := by omega
    go_enter Try.func63, Try.ntmps63
    go_wp2_with fail
    go_quiet (fail)
    go_wp2_with fail
    go_ret
    refine ⟨0, a, true, rfl, ⟨by omega, by omega, Or.inr ⟨rfl, Or.inr ?_⟩⟩, drd_set (show (w.drewN _).heap[rb]? = _ from HR.out) _, (grown_dr (grown_rf w _) _).trans (grown_self _ _ _ _)⟩
    have hl : s.data.toList.length = s.size := rfl
    rw [List.drop_of_length_le (by omega)]
    rfl
end Go.Proofs.Ytmipbiligijcpaa
