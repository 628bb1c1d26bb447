/- The program's parser. -/
import Derived.Test.YtmipbiligijcpaaDoorP
import Derived.Test.YtmipbiligijcpaaDoorL2
import Derived.Laws.AppendOwn
import Derived.Deep.AppendLies
namespace Go.Proofs.YtmipbiligijcpaaDoor
set_option linter.unusedVariables false
set_option linter.unusedSimpArgs false
open Go.RowKit Go.Proofs Go.Maps

theorem infoNode : (Tryd.prog.info? 58).map (fun i => (i.zero, i.size, i.bytes)) = some (some (.agg #[.string ⟨#[]⟩, .slice none 0 0, .int .i64 0, .int .i64 0, .int .i64 0, .int .i64 0, .bool false, .int .i64 0, .int .i64 0, .bool false, .int .i64 0, .int .i64 0, .slice none 0 0, .string ⟨#[]⟩]), 14, 160) := by kernel_rfl

/-- the globals that reading asks -/
structure Env (w : World) : Prop where
  glob : Glob w
  maxl : ∃ m, w.cell? ⟨0, 0, none⟩ = some (.int .i64 m)

def PAns (w : World) (r : Pr) (e : Ending) (w' : World) : Prop :=
  Below w.heap.size w w' ∧
  match r with
  | .inl false => e = .returned (.tuple #[.agg #[.slice none 0 0, .int .i64 0], .int .i64 1])
  | .inl true => e = .returned (.tuple #[.agg #[.slice none 0 0, .int .i64 0], .int .i64 2])
  | .inr (pl, vs) => ∃ g cap nl ps, e = .returned (.tuple #[.agg #[.slice (some ⟨g, 0, none⟩) pl.length cap, .int .i64 vs.length], .int .i64 0]) ∧ w.heap.size ≤ g ∧ Nrow w' g cap nl ∧ Reps w' nl pl ∧ plc 0 [] (pl.map PN.lab) = some ps ∧ (∀ (j : Nat) (c : NC) (p : PN), nl[j]? = some c → pl[j]? = some p → Er w' c.ev (edgK ps p.nc j))

theorem parse_long (s : ByteArray) (w : World) (h : decide (3000 < (s.size : Int)) = true) :
    Calls Tryd.prog 9 #[.string s] w (PAns w Pr.syn) := by
  go_enter Tryd.func9, Tryd.ntmps9
  go_wp2
  exact bodyPost_ret (v := .tuple #[.agg #[.slice none 0 0, .int .i64 0], .int .i64 1]) (by simp [results, Tryd.results9, go_sem]) rfl ⟨(Below.refl _ _).alloc (Nat.le_refl _) _, rfl⟩

theorem Env.alloc {w : World} (h : Env w) (o : Obj) : Env (w.alloc o) :=
  ⟨h.glob.alloc o, let ⟨m, hm⟩ := h.maxl; ⟨m, (World.grownBy_alloc w o none).cell hm (by simp)⟩⟩
theorem Env.below {w w' : World} (h : Env w) (hb : Below w.heap.size w w') : Env w' := by
  obtain ⟨⟨te, pe, hc⟩, m, hm⟩ := h
  exact ⟨⟨te, pe, (grown_of_below hb).cell hc (by simp)⟩, m, (grown_of_below hb).cell hm (by simp)⟩
theorem own_of_below {W W' : World} {B e size n : Nat} {v : Value} {xs : List Value} (h : W.ownsRow B e size v n xs) (hb : Below W.heap.size W W') : W'.ownsRow B e size v n xs :=
  h.kept (row := none) (grown_of_below hb) (Classical.em _)
theorem lnB_len (s : ByteArray) : (lnB s).length = Lib.countB s ⟨#[10]⟩ + 1 := by
  have h := congrArg List.length (Wm.lines_eq s)
  rw [List.length_map, Wm.lns_len] at h
  exact h
theorem lnB_cnt (s : ByteArray) : (lnB s).length ≤ s.size + 2 := by
  rw [lnB_len]
  have := Wm.count_le10 s.data.toList
  have e : Lib.countB s ⟨#[10]⟩ = Lib.count s.data.toList [10] := rfl
  have := Wm.len_data s
  omega
theorem lnB_size (s x : ByteArray) (h : x ∈ lnB s) : x.size ≤ s.size := by
  have : x.data.toList ∈ Wm.lns [] s.data.toList := by rw [← Wm.lines_eq s]; exact List.mem_map_of_mem h
  have := Wm.lns_le _ _ _ this
  have h1 := Wm.len_data s
  have h2 := Wm.len_data x
  simp only [List.length_nil] at this
  omega
theorem wds_size (s x : ByteArray) (h : x ∈ wds s) : x.size ≤ s.size ∧ 0 < x.size := by
  have : x.data.toList ∈ Wm.cutW [] s.data.toList := by rw [← wds_eq s]; exact List.mem_map_of_mem h
  have := Wm.cutW_le _ _ _ this
  have h1 := Wm.len_data s
  have h2 := Wm.len_data x
  simp only [List.length_nil] at this
  refine ⟨by omega, ?_⟩
  rcases Nat.eq_zero_or_pos x.size with e | e
  · exact absurd (List.length_eq_zero_iff.1 (h2.trans e)) this.2
  · exact e
theorem wds_len (s : ByteArray) : (wds s).length ≤ s.size + 1 := by
  have h := congrArg List.length (wds_eq s)
  rw [List.length_map] at h
  have := Wm.cutW_len s.data.toList []
  have := Wm.len_data s
  omega
theorem wds_sz (s : ByteArray) (h : s.size ≤ 3000) : Wsz (wds s) :=
  ⟨by have := wds_len s; omega, fun x hx => by have := (wds_size s x hx).1; omega⟩

/-- the blocks that the parser lays ahead of its loop -/
structure Pre (B : Nat) (s : ByteArray) (w : World) : Prop where
  res : w.heap[B]? = some (.cells #[.slice none 0 0, .int .i64 0] 37 (0, 0))
  lines : w.heap[B + 3]? = some (.cells ((lnB s).map Value.string).toArray 9 (0, 0))
theorem Pre.grown {B : Nat} {s : ByteArray} {w w' : World} {row : Option Nat} (h : Pre B s w) (hg : w.grownBy w' row) (h1 : some B ≠ row) (h2 : some (B + 3) ≠ row) : Pre B s w' :=
  ⟨(hg.block B (Array.getElem?_eq_some_iff.1 h.res).1 h1).trans h.res, (hg.block (B + 3) (Array.getElem?_eq_some_iff.1 h.lines).1 h2).trans h.lines⟩
theorem Pre.line {B : Nat} {s : ByteArray} {w : World} (h : Pre B s w) (k : Nat) (x : ByteArray) (hx : (lnB s)[k]? = some x) : w.cell? ⟨B + 3, k, none⟩ = some (.string x) := by
  simp [World.cell?, h.lines, hx]

theorem cutWords_ws (x : ByteArray) (ws : List ByteArray) (hx : wds x = ws) (w : World) (hs : x.size ≤ 3000) :
    Calls Tryd.prog 13 #[.string x] w fun e w' => ∃ (g cap : Nat), e = .returned (.slice (some ⟨g, 0, none⟩) ws.length cap) ∧ w.heap.size ≤ g ∧ ws.length ≤ cap ∧ cap ≤ maxLen ∧ Ws w' g 0 ws ∧ Below w.heap.size w w' := by
  subst hx
  have cF := Tryd.strings_FieldsFunc_runes 25 #[] (enters_of Tryd.func25 (by kernel_rfl) rfl) Wm.pblk x w (by omega) (blank_pays w)
  go_enter Tryd.func13, Tryd.ntmps13
  go_wp2_with fail
  refine cF.mono ?_
  rintro e w1 ⟨A, rfl, hA, hown, hb⟩
  go_wp2
  go_ret
  have h1 := wds_len x
  refine ⟨A, (wds x).length, rfl, hA, Nat.le_refl _, by unfold maxLen; omega, ?_, hb⟩
  rcases hown.2 with ⟨h0, _⟩ | ⟨g, cap, cur, hv, _, hg, _, _, _, ht⟩
  · cases h0
  · cases hv
    exact ⟨cur, hg, by simpa [wds] using ht⟩
theorem stm_goal (vs : List Nam) (ws : List ByteArray) (h : Wsz ws) : (stm vs ws).1.goal.size ≤ 3000 := by
  have he : emp.size ≤ 3000 := by decide
  have ho : ∀ ws, (outS vs ws).1.goal.size ≤ 3000 := by
    intro ws; unfold outS; split <;> exact he
  have hg : ∀ ws, Wsz ws → (gotoS vs ws).1.goal.size ≤ 3000 := by
    intro ws hz; unfold gotoS; split
    · rename_i w1; exact hz.word w1 (by simp)
    · exact he
  have hi : ∀ ws, Wsz ws → (ifS vs ws).1.goal.size ≤ 3000 := by
    intro ws hz; unfold ifS; split
    · rename_i _ w1 w2 w3 w4 w5
      split
      · exact hz.word w5 (by simp)
      · exact he
    · exact he
  have ha : ∀ ws, (asgS vs ws).1.goal.size ≤ 3000 := by
    intro ws; unfold asgS; split
    · split
      · split
        · split <;> exact he
        · exact he
        · exact he
      · exact he
    · exact he
  unfold stm
  split
  · exact he
  · split
    · exact ho _
    · split
      · exact hi _ h
      · split
        · exact hg _ h
        · split
          · exact he
          · exact ha _
theorem lin_sz (vs : List Nam) (ws : List ByteArray) (h : Wsz ws) : (lin vs ws).1.size ≤ 3000 ∧ (lin vs ws).2.2.1.goal.size ≤ 3000 := by
  have he : emp.size ≤ 3000 := by decide
  unfold lin
  split
  · exact ⟨he, he⟩
  · rename_i w0 r
    have hl : (labD w0).size ≤ 3000 := by have := labD_size w0; have := h.word w0 (by simp); omega
    split
    · split
      · split
        · exact ⟨he, he⟩
        · exact ⟨hl, stm_goal _ _ h.tail⟩
      · exact ⟨he, he⟩
    · exact ⟨he, stm_goal _ _ h⟩

theorem own_ne {w : World} {B e size n : Nat} {v : Value} {xs : List Value} (h : w.ownsRow (B + 4) e size v n xs) : v.ownBlock = none ∨ v.ownBlock ≠ some (B + 1) := by
  cases hv : v.ownBlock with
  | none => exact Or.inl rfl
  | some k => have := (h.lt k hv).1; exact Or.inr (by simp; omega)
theorem news_alloc2 (W : World) (o : Obj) (cs : Array Value) (t : TypeId) : ∀ (j : Nat) (u : Value), cs.toList[j]? = some u → ((W.alloc o).alloc (.cells cs t)).cell? ((⟨W.heap.size + 1, 0, none⟩ : Addr).add j) = some u := by
  intro j u hj
  have h : ((W.alloc o).alloc (.cells cs t)).heap[(W.alloc o).heap.size]? = some (.cells cs t (0, 0)) := heap_alloc_new _ _
  have hz : (W.alloc o).heap.size = W.heap.size + 1 := by simp
  rw [hz] at h
  have ha : (⟨W.heap.size + 1, 0, none⟩ : Addr).add j = ⟨W.heap.size + 1, j, none⟩ := by unfold Addr.add; split <;> simp_all
  rw [ha]
  unfold World.cell?
  simp only [h]
  simpa using hj
theorem snCells_one (lab : ByteArray) (a : Option Addr) (l c : Nat) (n : SN) : ∀ u ∈ (snCells lab (.slice a l c) n nilS).toList, u.oneCell' = true := by
  intro u hu
  simp only [snCells, nilS, List.mem_cons, List.mem_nil_iff, or_false] at hu
  rcases hu with rfl | rfl | rfl | rfl | rfl | rfl | rfl | rfl | rfl | rfl | rfl | rfl | rfl | rfl <;> rfl

theorem ws_drop {w : World} {g off : Nat} {ws : List ByteArray} (h : Ws w g off ws) : ∀ k, Ws w g (off + k) (ws.drop k) := by
  intro k
  induction k with
  | zero => simpa using h
  | succ k ih =>
    by_cases hk : k < ws.length
    · rw [List.drop_eq_getElem_cons hk] at ih
      exact ih.tail
    · rw [List.drop_eq_nil_of_le (by omega)]
      obtain ⟨cur, h1, _⟩ := h
      exact ⟨cur, h1, by simp⟩
theorem alloc4 (w : World) (o1 o2 o3 o4 : Obj) : ((((w.alloc o1).alloc o2).alloc o3).alloc o4).heap[w.heap.size]? = some o1 ∧ ((((w.alloc o1).alloc o2).alloc o3).alloc o4).heap[w.heap.size + 1]? = some o2 ∧ ((((w.alloc o1).alloc o2).alloc o3).alloc o4).heap[w.heap.size + 1 + 1]? = some o3 ∧ ((((w.alloc o1).alloc o2).alloc o3).alloc o4).heap[w.heap.size + 3]? = some o4 := by
  have z1 : (w.alloc o1).heap.size = w.heap.size + 1 := by simp
  have z2 : ((w.alloc o1).alloc o2).heap.size = w.heap.size + 1 + 1 := by simp
  have z3 : (((w.alloc o1).alloc o2).alloc o3).heap.size = w.heap.size + 3 := by simp
  have h1 := heap_alloc_new w o1
  have h2 := heap_alloc_new (w.alloc o1) o2
  have h3 := heap_alloc_new ((w.alloc o1).alloc o2) o3
  have h4 := heap_alloc_new (((w.alloc o1).alloc o2).alloc o3) o4
  rw [z1] at h2
  rw [z2] at h3
  rw [z3] at h4
  refine ⟨?_, ?_, ?_, h4⟩
  · rw [Below.heap_alloc _ _ _ (by omega), Below.heap_alloc _ _ _ (by omega), Below.heap_alloc _ _ _ (by omega)]; exact h1
  · rw [Below.heap_alloc _ _ _ (by omega), Below.heap_alloc _ _ _ (by omega)]; exact h2
  · rw [Below.heap_alloc _ _ _ (by omega)]; exact h3
theorem nrow_of_own {w : World} {B : Nat} {v : Value} {nl : List NC} (h : w.ownsRow B 58 14 v nl.length (rowCells nl)) (h0 : 0 < nl.length) : ∃ g cap, v = .slice (some ⟨g, 0, none⟩) nl.length cap ∧ B ≤ g ∧ Nrow w g cap nl := by
  rcases h.2 with ⟨_, e⟩ | ⟨g, cap, cur, hv, hb, hg, hc, _, hs, ht⟩
  · omega
  · exact ⟨g, cap, hv, hb, cur, hg, hs, ht, hc⟩
theorem nil_of_own {w : World} {B : Nat} {v : Value} {n : Nat} {xs : List Value} (h : w.ownsRow B 58 14 v n xs) : ∃ a cap, v = .slice a n cap := by
  rcases h.2 with ⟨rfl, e⟩ | ⟨g, cap, cur, hv, _⟩
  · exact ⟨none, 0, by rw [e]⟩
  · exact ⟨_, _, hv⟩
theorem lab_eq (nl : List NC) (pl : List PN) (hl : nl.length = pl.length) (h : ∀ (j : Nat) (c : NC) (p : PN), nl[j]? = some c → pl[j]? = some p → c.lab = p.lab) : nl.map NC.lab = pl.map PN.lab := by
  apply List.ext_getElem?
  intro j
  simp only [List.getElem?_map]
  by_cases hj : j < nl.length
  · have a := List.getElem?_eq_getElem hj
    have b := List.getElem?_eq_getElem (l := pl) (i := j) (by omega)
    rw [a, b]; simp [h j _ _ a b]
  · rw [List.getElem?_eq_none (by omega), List.getElem?_eq_none (l := pl) (by omega)]; rfl
theorem er_set {w : World} {ev : Value} {es : List Int} {g : Nat} {cur : Array Value} {t : TypeId} {f : Nat × Nat} (h : Er w ev es) (hc : w.heap[g]? = some (.cells cur t f)) (ht : t ≠ 3) (o : Nat) (v : Value) : Er (w.setCell ⟨g, o, none⟩ v) ev es := by
  rcases h with h | ⟨b, h1, h2⟩
  · exact Or.inl h
  · refine Or.inr ⟨b, h1, (Below.heap_setCell _ _ _ _ ?_).trans h2⟩
    rintro rfl
    rw [hc] at h2
    simp at h2
    exact ht h2.2.1
theorem Rd.keptRow {w w' : World} {rb mb : Nat} {vs : List Nam} {row : Option Nat} (h : Rd w rb mb vs) (hg : w.grownBy w' row) (h1 : some rb ≠ row) (h2 : some mb ≠ row) : Rd w' rb mb vs :=
  ⟨(hg.block rb h.ltr h1).trans h.box, h.own.kept hg h2, h.nodup⟩
theorem Env.keptRow {w w' : World} {row : Option Nat} (h : Env w) (hg : w.grownBy w' row) (h1 : some 4 ≠ row) (h2 : some 0 ≠ row) : Env w' := by
  obtain ⟨⟨te, pe, hc⟩, m, hm⟩ := h
  exact ⟨⟨te, pe, hg.cell hc h1⟩, m, hg.cell hm h2⟩
theorem lt_ne {row : Option Nat} {b j : Nat} (h : ∀ k, row = some k → b ≤ k) (hj : j < b) : some j ≠ row := by
  intro e
  have := h j e.symm
  omega
theorem mx_lt {w : World} (h : Env w) : 0 < w.heap.size := by
  obtain ⟨m, hm⟩ := h.maxl
  exact World.block_lt_of_cell? w _ hm

set_option maxHeartbeats 2000000 in
set_option maxRecDepth 100000 in
theorem parse_try (s : ByteArray) (w : World) (hs : s.size ≤ 3000) (hE : Env w) :
    Calls Tryd.prog 9 #[.string s] w (PAns w (prs s)) := by
  have h3 : decide (3000 < (s.size : Int)) = false := by rw [decide_eq_false_iff_not]; omega
  have hmm := @run_makeMap Tryd.prog
  obtain ⟨i0, hi, hz0, hz1, hz2⟩ := info_parts infoNode
  have HI : Hid (Tryd.prog.info? 58 = some i0 ∧ i0.zero = some (.agg #[.string ⟨#[]⟩, .slice none 0 0, .int .i64 0, .int .i64 0, .int .i64 0, .int .i64 0, .bool false, .int .i64 0, .int .i64 0, .bool false, .int .i64 0, .int .i64 0, .slice none 0 0, .string ⟨#[]⟩]) ∧ i0.size = 14 ∧ i0.bytes = 160) := ⟨hi, hz0, hz1, hz2⟩
  clear hi hz0 hz1 hz2
  go_enter Tryd.func9, Tryd.ntmps9
  go_wp2_with fail
  have hE1 := ((hE.alloc (.cells #[.slice none 0 0, .int .i64 0] 37)).alloc (.map #[] 0)).alloc (.cells #[.map (some (w.heap.size + 1))] 46)
  obtain ⟨m, hm⟩ := hE1.maxl
  refine (Tryd.strings_Split s ⟨#[10]⟩ m _ (by omega) hm (by decide)).mono ?_
  rintro e W1 ⟨rfl, hW1⟩
  have hcnt := lnB_len s
  have hcle := lnB_cnt s
  rw [← hcnt] at *
  have hE2 : Env W1 := by rw [hW1]; exact hE1.alloc _
  have hb1 : Below w.heap.size w W1 := by
    rw [hW1]
    exact ((((Below.refl _ _).alloc (Nat.le_refl _) _).alloc (by simp) _).alloc (by simp; omega) _).alloc (by simp; omega) _
  have h4 := alloc4 w (.cells #[.slice none 0 0, .int .i64 0] 37) (.map #[] 0) (.cells #[.map (some (w.heap.size + 1))] 46) (.cells ((lnB s).map Value.string).toArray 9)
  have hPre : Pre w.heap.size s W1 := by
    rw [hW1]
    exact ⟨h4.1, h4.2.2.2⟩
  have hRd : Rd W1 (w.heap.size + 1 + 1) (w.heap.size + 1) [] := by
    rw [hW1]
    refine ⟨h4.2.2.1, ?_, List.nodup_nil⟩
    obtain ⟨es, clock, hb, F, hs', hD⟩ := World.ownsMap_made (H := Unit) (w.alloc (.cells #[.slice none 0 0, .int .i64 0] 37)) Tryd.prog 9 (plainElem Tryd.prog 3)
    have hb' : (((w.alloc (.cells #[.slice none 0 0, .int .i64 0] 37)).alloc (.map #[] 0))).heap[w.heap.size + 1]? = some (.map es clock) := by
      have : (w.alloc (.cells #[.slice none 0 0, .int .i64 0] 37)).heap.size = w.heap.size + 1 := by simp
      rw [← this]; exact hb
    refine ⟨es, clock, ?_, F, hs', hD⟩
    rw [Below.heap_alloc _ _ _ (by simp), Below.heap_alloc _ _ _ (by simp)]
    exact hb'
  clear h4
  have hz1 : W1.heap.size = w.heap.size + 4 := by rw [hW1]; simp
  have HG : Hid (4 < w.heap.size ∧ 0 < w.heap.size) := ⟨hE.glob.lt, mx_lt hE⟩
  have HZ : Hid (W1.heap.size = w.heap.size + 4) := hz1
  clear hW1 hm hz1 hE1 hE
  go_wp2_with fail
  go_loopw [5, 20] (fun v i wr => ∃ (k : Nat) (vs : List Nam) (acc : List PN) (nl : List NC), k ≤ (lnB s).length ∧ i = .int .i64 k ∧ Hid (rdl [] [] (lnW s) = rdl vs acc ((lnW s).drop k)) ∧ wr.ownsRow (w.heap.size + 4) 58 14 v nl.length (rowCells nl) ∧ Reps wr nl acc ∧ Rd wr (w.heap.size + 1 + 1) (w.heap.size + 1) vs ∧ Env wr ∧ Pre w.heap.size s wr ∧ Below w.heap.size w wr ∧ Hid (vs.length ≤ 3 * k ∧ nl.length ≤ k ∧ (∀ c ∈ nl, c.lab.size ≤ 3000 ∧ c.n.goal.size ≤ 3000) ∧ w.heap.size + 4 ≤ wr.heap.size)) (fun _ i _ => (lnB s).length - (intOf i).toNat)
  case atStart =>
    refine ⟨0, [], [], [], Nat.zero_le _, rfl, rfl, World.ownsRow_nil _ _ _ _, ⟨rfl, fun j c p h => by simp at h⟩, hRd, hE2, hPre, hb1, ?_⟩
    exact ⟨by simp, by simp, by simp, by have := HZ.out; omega⟩
  case round =>
    clear hRd hE2 hPre hb1
    obtain ⟨k, vs, acc, nl, hk, rfl, HR, hown, hReps, hRd, hEn, hPre, hb, HB⟩ := hrel
    by_cases hlt : k < (lnB s).length
    · obtain ⟨x, hx⟩ : ∃ x, (lnB s)[k]? = some x := ⟨_, List.getElem?_eq_getElem hlt⟩
      have hxs : x.size ≤ 3000 := by have := lnB_size s x (List.mem_of_getElem? hx); omega
      obtain ⟨ws, hws⟩ : ∃ ws, wds x = ws := ⟨_, rfl⟩
      have hline := hPre.line k x hx
      have hlti : (k : Int) < ((lnB s).length : Int) := by omega
      have hwsz : Wsz ws := hws ▸ wds_sz x hxs
      have hpos : ∀ y ∈ ws, 0 < y.size := by rw [← hws]; exact fun y hy => (wds_size x y hy).2
      have hcw := fun W => cutWords_ws x ws hws W hxs
      have HCW := (show Hid (∀ W, Calls Tryd.prog 13 #[.string x] W fun e w' => ∃ (g cap : Nat), e = .returned (.slice (some ⟨g, 0, none⟩) ws.length cap) ∧ W.heap.size ≤ g ∧ ws.length ≤ cap ∧ cap ≤ maxLen ∧ Ws w' g 0 ws ∧ Below W.heap.size W w') from hcw)
      have hdrop : (lnW s).drop k = ws :: (lnW s).drop (k + 1) := by
        rw [List.drop_eq_getElem_cons (by simpa [lnW] using hlt)]
        congr 1
        have h1 := (List.getElem?_eq_some_iff.1 hx)
        simp only [lnW, List.getElem_map, h1.2, hws]
      have HD : Hid (rdl [] [] (lnW s) = rdl vs acc (ws :: (lnW s).drop (k + 1))) := by show _ = _; rw [HR.out, hdrop]
      clear hcw hdrop hws HR hx
      have hbz := hb.size
      go_wp2_with fail
      refine Calls.mono (HCW.out _) ?_
      clear HCW
      rintro e W2 ⟨A, cap, rfl, hA, hcap, hmax, hWs, hb2⟩
      have hb2' := hb.trans (hb2.mono hbz)
      match ws, hwsz, hpos, HD, hcap, hWs with
      | [], hwsz, hpos, HD, hcap, hWs =>
        go_wp2_with (go_at_call 14; refine (saysNothing_none _ _ _).mono ?_; rintro e w' ⟨rfl, rfl⟩)
        refine ⟨⟨k + 1, vs, acc, nl, by omega, by go_num, ?_, own_of_below hown hb2, hReps.mono (ws_below hb2), hRd.grown hb2, hEn.below hb2, hPre.grown (grown_of_below hb2) (by simp) (by simp), hb2', ?_⟩, by simp [intOf]; omega⟩
        · show _ = _
          rw [HD.out]
          rfl
        · have := HB.out
          exact ⟨by omega, by omega, this.2.2.1, by have := hb2.size; omega⟩
      | w0 :: r, hwsz, hpos, HD, hcap, hWs =>
        have hw0 := hpos w0 (by simp)
        have hw3 := hwsz.word w0 (by simp)
        have hl0 : (((w0 :: r).length : Int) == 0) = false := by rw [beq_eq_false_iff_ne]; simp; omega
        have hRd2 := hRd.grown hb2
        have hEn2 := hEn.below hb2
        have hRL := readLine_any (w.heap.size + 1 + 1) (w.heap.size + 1) A 0 cap (w0 :: r) vs W2 (by simp) hcap hmax hwsz (by have := HB.out.1; unfold maxLen; omega) hRd2 hEn2.glob hWs
        have HRL : Hid (Calls Tryd.prog 15 #[.pointer (some ⟨w.heap.size + 1 + 1, 0, none⟩), .slice (some ⟨A, 0, none⟩) (w0 :: r).length cap] W2 (AnsL W2 (w.heap.size + 1 + 1) (w.heap.size + 1) A 0 (w0 :: r).length cap (lin vs (w0 :: r)))) := hRL
        clear hRL
        cases hno : saysNo (w0 :: r) with
        | true =>
          go_wp2_with (go_at_call 14; refine (saysNothing_any A 0 _ cap w0 r _ hl0 hw0 hw3 hWs).mono ?_; rintro e w' ⟨rfl, rfl⟩)
          refine ⟨⟨k + 1, vs, acc, nl, by omega, by go_num, ?_, own_of_below hown hb2, hReps.mono (ws_below hb2), hRd2, hEn2, hPre.grown (grown_of_below hb2) (by simp) (by simp), hb2', ?_⟩, by simp [intOf]; omega⟩
          · show _ = _
            rw [HD.out, rdl, hno, if_pos rfl]
          · have := HB.out
            exact ⟨by omega, by omega, this.2.2.1, by have := hb2.size; omega⟩
        | false =>
          go_wp2_with (go_at_call 14; refine (saysNothing_any A 0 _ cap w0 r _ hl0 hw0 hw3 hWs).mono ?_; rintro e w' ⟨rfl, rfl⟩)
          refine Calls.mono HRL.out ?_
          clear HRL
          rintro e W3 ⟨lab, kk, ad, l, c, n, ok, vs', rfl, HS, HOK, hRd3, hg3⟩
          have hPre3 := (hPre.grown (grown_of_below hb2) (by simp) (by simp)).grown hg3 (by simp) (by simp)
          obtain ⟨hx1, hx2⟩ := box_cells hPre3.res
          have hBz : w.heap.size < W3.heap.size := (Array.getElem?_eq_some_iff.1 hPre3.res).1
          have hb3 : Below w.heap.size w W3 := hb2'.trans ⟨hg3.os, hg3.tape, hg3.output, hg3.size, fun j hj => hg3.block j (by have := hb2'.size; omega) (by simp; omega)⟩
          have h4 : w.heap.size + 4 ≤ W3.heap.size := by have := HB.out.2.2.2; have := hb2.size; have := hg3.size; omega
          cases ok with
          | false =>
            have HN : Hid (prs s = Pr.syn) := by
              show _ = _
              unfold prs
              rw [if_neg (by omega), HD.out, rdl, hno, ← HS.out]
              rfl
            go_wp2_with fail
            refine bodyPost_ret (v := .tuple #[.agg #[.slice none 0 0, .int .i64 0], .int .i64 1]) (by simp [results, Tryd.results9, go_sem, hx1, hBz]) rfl ?_
            rw [HN.out]
            refine ⟨?_, rfl⟩
            refine Below.alloc ?_ (by simp [World.setCell]; omega) _
            exact (hb3.setCell (Nat.le_refl _) _).setCell (Nat.le_refl _) _
          | true =>
            have hown3 := ((((own_of_below hown hb2).kept hg3 (own_ne hown))).alloc (.cells (snCells lab (.slice ad l c) n nilS) 58)).alloc (.cells (snCells lab (.slice ad l c) n nilS) 58)
            have hnews := news_alloc2 W3 (.cells (snCells lab (.slice ad l c) n nilS) 58) (snCells lab (.slice ad l c) n nilS) 58
            have hone := snCells_one lab ad l c n
            have hlen1 : nl.length + 1 ≤ maxLen := by have := HB.out.2.1; unfold maxLen; omega
            have hlen2 : (nl.length + 1) * 160 ≤ 140737488355328 := by have := HB.out.2.1; omega
            have hbase : w.heap.size + 4 ≤ ((W3.alloc (.cells (snCells lab (.slice ad l c) n nilS) 58)).alloc (.cells (snCells lab (.slice ad l c) n nilS) 58)).heap.size := by simp; omega
            have HH : Hid (_ ∧ _ ∧ _ ∧ _) := ⟨hown3, hnews, hone, hbase⟩
            have hR3 := (hReps.mono (ws_below hb2)).mono (ws_map hRd2.isMap hg3)
            have hE3 : Env W3 := hEn2.keptRow hg3 (by have := HG.out.1; first | (simp; omega) | (intro e; have := Option.some.inj e; omega)) (by have := HG.out.2; first | (simp; done) | (simp; omega) | (intro e; have := Option.some.inj e; omega))
            have hW3 := hWs.grown hRd2.isMap hg3
            have HK : Hid (Reps W3 nl acc ∧ Env W3 ∧ Ws W3 A 0 (w0 :: r)) := ⟨hR3, hE3, hW3⟩
            clear hR3 hE3 hW3
            simp only [snCells, nilS] at HH
            clear hown hown3 hnews hone hbase hReps hRd hEn hPre hline
            go_wp2_with (at_builtin; go_must (refine wpList_append_own _ rfl (.tmp 36) (.tmp 38) 35 rfl (w.heap.size + 4) 58 i0 _ 14 160 Tryd.underlying35 HI.out.1 HI.out.2.1 HI.out.2.2.1 HI.out.2.2.2 rfl (by decide) _ _ _ rfl HH.out.1 ⟨W3.heap.size + 1, 0, none⟩ 1 1 _ rfl rfl HH.out.2.1 HH.out.2.2.1 hlen1 hlen2 HH.out.2.2.2 ?_; intro v4 W4 hown4 hgrow4 hnil4))
            have hlow := HH.out.1.lt
            have hgA := ((World.grownBy_alloc W3 (.cells #[.string lab, .slice ad l c, .int .i64 n.kind, .int .i64 n.var, .int .i64 n.op, .int .i64 n.test, .bool n.a.isVar, .int .i64 n.a.var, .int .i64 n.a.const, .bool n.b.isVar, .int .i64 n.b.var, .int .i64 n.b.const, .slice none 0 0, .string n.goal] 58) u5.ownBlock).trans (World.grownBy_alloc _ (.cells #[.string lab, .slice ad l c, .int .i64 n.kind, .int .i64 n.var, .int .i64 n.op, .int .i64 n.test, .bool n.a.isVar, .int .i64 n.a.var, .int .i64 n.a.const, .bool n.b.isVar, .int .i64 n.b.var, .int .i64 n.b.const, .slice none 0 0, .string n.goal] 58) u5.ownBlock)).trans hgrow4
            have hne : ∀ j, j < w.heap.size + 4 → some j ≠ u5.ownBlock := fun j hj => lt_ne (fun q hq => (hlow q hq).1) hj
            have hln := lin_sz vs (w0 :: r) hwsz
            have hll := lin_len vs (w0 :: r)
            rw [← HS.out] at hln hll
            simp only at hln hll
            have hB := HB.out
            have hwsA : ∀ g off ws, Ws W3 g off ws → Ws W4 g off ws := by
              intro g off ws h
              exact ws_row (own_cells HH.out.1) hgrow4 g off ws ((h.alloc _).alloc _)
            refine ⟨⟨k + 1, vs', acc ++ [⟨lab, (w0 :: r).drop kk, n⟩], nl ++ [⟨lab, ad, l, c, n, none, 0, 0⟩], by omega, by go_num, ?_, ?_, ?_, hRd3.keptRow hgA (hne _ (by omega)) (hne _ (by omega)), HK.out.2.1.keptRow hgA (hne _ (by have := HG.out.1; omega)) (hne _ (by have := HG.out.2; omega)), hPre3.grown hgA (hne _ (by omega)) (hne _ (by omega)), ?_, ?_⟩, by simp [intOf]; omega⟩
            · show _ = _
              rw [HD.out, rdl, hno, ← HS.out]
              rfl
            · rw [List.length_append, rowCells_snoc]
              exact hown4
            · refine (HK.out.1.mono hwsA).snoc ⟨rfl, rfl, ?_, ?_⟩
              · obtain ⟨e1, e2, e3⟩ := HOK.out trivial
                refine ⟨A, 0 + kk, e1, hwsA _ _ _ ?_⟩
                exact ws_drop HK.out.2.2 kk
              · obtain ⟨e1, e2, e3⟩ := HOK.out trivial
                rw [e2]; simp
            · refine ⟨hgA.os.trans hb3.os, hgA.tape.trans hb3.tape, hgA.output.trans hb3.output, Nat.le_trans hb3.size hgA.size, fun j hj => (hgA.block j (by omega) (hne j (by omega))).trans (hb3.block j hj)⟩
            · refine ⟨by omega, by simp; omega, ?_, by have := hgA.size; omega⟩
              intro d hd
              rcases List.mem_append.1 hd with h | h
              · exact hB.2.2.1 d h
              · simp at h; subst h; exact hln
    · obtain rfl : k = (lnB s).length := by omega
      have HF : Hid (rdl [] [] (lnW s) = some (acc, vs)) := by
        show _ = _
        rw [HR.out, List.drop_eq_nil_of_le (by simp [lnW])]; rfl
      clear HR
      have hcell := hRd.cell
      have hmo := hRd.own
      have hsz := size_tab vs hRd.nodup
      obtain ⟨hx1, hx2⟩ := box_cells hPre.res
      have hB := HB.out
      by_cases h8 : 8 < vs.length
      · have d8 : decide (8 < (vs.length : Int)) = true := by rw [decide_eq_true_eq]; omega
        have HN : Hid (prs s = Pr.prg) := by
          show _ = _
          unfold prs
          rw [if_neg (by omega), HF.out]
          simp only
          rw [if_neg (by simp [progOk]; omega)]
        go_wp2_with (at_len; refine wpList_len_own _ rfl _ 44 rfl 9 3 Tryd.underlying44 _ (w.heap.size + 1) vs.length (tab vs) rfl hmo ?_)
        refine bodyPost_ret (v := .tuple #[.agg #[.slice none 0 0, .int .i64 0], .int .i64 2]) (by simp [results, Tryd.results9, go_sem, hx1]) rfl ?_
        rw [HN.out]
        exact ⟨(hb.setCell (Nat.le_refl _) _).setCell (Nat.le_refl _) _, rfl⟩
      have d8 : decide (8 < (vs.length : Int)) = false := by rw [decide_eq_false_iff_not]; omega
      by_cases hbad : nl.length = 0 ∨ 60 < nl.length
      · have HN : Hid (prs s = Pr.prg) := by
          show _ = _
          unfold prs
          rw [if_neg (by omega), HF.out]
          simp only
          rw [if_neg (by have := hReps.len; simp [progOk]; intros; omega)]
        obtain ⟨a, cp, rfl⟩ := nil_of_own hown
        have hlk : ∀ W, Calls Tryd.prog 16 #[.slice a nl.length cp] W fun e w' => e = .returned (.bool false) ∧ w' = W := by
          intro W
          by_cases h0 : nl.length = 0
          · rw [h0]; exact link_none a cp W
          · exact link_many a _ cp W (by rw [beq_eq_false_iff_ne]; omega) (by rw [decide_eq_true_eq]; omega)
        have HL : Hid (∀ W, Calls Tryd.prog 16 #[.slice a nl.length cp] W fun e w' => e = .returned (.bool false) ∧ w' = W) := hlk
        clear hlk
        go_wp2_with (first
          | (at_len; refine wpList_len_own _ rfl _ 44 rfl 9 3 Tryd.underlying44 _ (w.heap.size + 1) vs.length (tab vs) rfl hmo ?_)
          | (go_at_call 16; refine Calls.mono (HL.out _) ?_; rintro e w' ⟨rfl, rfl⟩))
        refine bodyPost_ret (v := .tuple #[.agg #[.slice none 0 0, .int .i64 0], .int .i64 2]) (by simp [results, Tryd.results9, go_sem, hx1]) rfl ?_
        rw [HN.out]
        exact ⟨(hb.setCell (Nat.le_refl _) _).setCell (Nat.le_refl _) _, rfl⟩
      obtain ⟨g, cp, rfl, hgB, hN⟩ := nrow_of_own hown (by omega)
      have HLK := (show Hid _ from link_any g cp nl wr hN (by omega) (by omega) (fun c hc => (hB.2.2.1 c hc).1) (fun c hc => (hB.2.2.1 c hc).2))
      have hlk : linkOk nl = linkOk (acc.map PN.nc) := linkOk_nc nl acc hReps.len (fun j c p a b => ⟨(hReps.each j c p a b).lab, (hReps.each j c p a b).n⟩)
      have n1 : some w.heap.size ≠ some g := by simp; omega
      have n2 : some (w.heap.size + 3) ≠ some g := by simp; omega
      have n3 : some (w.heap.size + 1 + 1) ≠ some g := by simp; omega
      have n4 : some (w.heap.size + 1) ≠ some g := by simp; omega
      have HNE : Hid (_ ∧ _ ∧ _ ∧ _) := ⟨n1, n2, n3, n4⟩
      clear n1 n2 n3 n4
      have HLL : Hid (linkOk nl = linkOk (acc.map PN.nc)) := hlk
      clear hlk
      cases hok : linkOk nl with
      | false =>
        have HN : Hid (prs s = Pr.prg) := by
          show _ = _
          unfold prs
          rw [if_neg (by omega), HF.out]
          simp only
          rw [if_neg (by simp only [progOk, ← HLL.out, hok]; simp)]
        go_wp2_with (first
          | (at_len; refine wpList_len_own _ rfl _ 44 rfl 9 3 Tryd.underlying44 _ (w.heap.size + 1) vs.length (tab vs) rfl hmo ?_)
          | (go_at_call 16; refine Calls.mono HLK.out ?_; rintro e W5 ⟨rfl, hg5, hres5⟩; clear hx1 hx2; obtain ⟨hx1, hx2⟩ := box_cells (hPre.grown hg5 HNE.out.1 HNE.out.2.1).res))
        refine bodyPost_ret (v := .tuple #[.agg #[.slice none 0 0, .int .i64 0], .int .i64 2]) (by simp [results, Tryd.results9, go_sem, hx1]) rfl ?_
        rw [HN.out]
        refine ⟨?_, rfl⟩
        have hb5 : Below w.heap.size w W5 := hb.trans ⟨hg5.os, hg5.tape, hg5.output, hg5.size, fun j hj => hg5.block j (by have := hb.size; omega) (by simp; omega)⟩
        exact (hb5.setCell (Nat.le_refl _) _).setCell (Nat.le_refl _) _
      | true =>
        have HN : Hid (prs s = Pr.ok acc vs) := by
          show _ = _
          unfold prs
          rw [if_neg (by omega), HF.out]
          simp only
          rw [if_pos (by have := hReps.len; simp only [progOk, ← HLL.out, hok]; simp; omega)]
        go_wp2_with (first
          | (at_len; first | refine wpList_len_own _ rfl _ 44 rfl 9 3 Tryd.underlying44 _ (w.heap.size + 1) vs.length (tab vs) rfl hmo5 ?_ | refine wpList_len_own _ rfl _ 44 rfl 9 3 Tryd.underlying44 _ (w.heap.size + 1) vs.length (tab vs) rfl hmo ?_)
          | (go_at_call 16; refine Calls.mono HLK.out ?_; rintro e W5 ⟨rfl, hg5, hres5⟩; clear hx1 hx2; obtain ⟨hx1, hx2⟩ := box_cells (hPre.grown hg5 HNE.out.1 HNE.out.2.1).res; have hRd5 := hRd.keptRow hg5 HNE.out.2.2.1 HNE.out.2.2.2; have hcell5 := hRd5.cell; have hmo5 := hRd5.own))
        refine bodyPost_ret (v := .tuple #[.agg #[.slice (some ⟨g, 0, none⟩) nl.length cp, .int .i64 vs.length], .int .i64 0]) (by simp [results, Tryd.results9, go_sem, hx1]) rfl ?_
        rw [HN.out]
        have hb5 : Below w.heap.size w W5 := hb.trans ⟨hg5.os, hg5.tape, hg5.output, hg5.size, fun j hj => hg5.block j (by have := hb.size; omega) (by simp; omega)⟩
        refine ⟨(hb5.setCell (Nat.le_refl _) _).setCell (Nat.le_refl _) _, ?_⟩
        obtain ⟨ps, nl', hp, hN5, hL5⟩ := hres5 hok
        have hres := (hPre.grown hg5 HNE.out.1 HNE.out.2.1).res
        have hR5 : Reps W5 nl acc := hReps.mono (ws_row (fun q hq => by cases hq; obtain ⟨cur, hc, _⟩ := hN; exact ⟨cur, (0, 0), hc⟩) hg5)
        refine ⟨g, cp, nl', ps, by rw [hReps.len], by omega, ?_, ?_, ?_, ?_⟩
        · exact hN5.of_block ((Below.heap_setCell _ _ _ _ (by show g ≠ w.heap.size; omega)).trans (Below.heap_setCell _ _ _ _ (by show g ≠ w.heap.size; omega)))
        · refine Reps.mono (w := W5) ?_ ?_
          · refine ⟨hL5.len.trans hReps.len, fun j c' p hc' hp' => ?_⟩
            have hj : j < nl.length := by have := (List.getElem?_eq_some_iff.1 hc').1; have := hL5.len; omega
            have hc := List.getElem?_eq_getElem hj
            obtain ⟨c2, a1, a2, a3, a4⟩ := hL5.done j _ hj hc
            rw [hc'] at a1
            cases a1
            have hr := hR5.each j _ p hc hp'
            exact ⟨a2.lab.trans hr.lab, a2.n.trans hr.n, by rw [a2.wa]; exact hr.ws, a2.wl.trans hr.wl⟩
          · intro a off ws h
            have hne : a ≠ w.heap.size := by
              rintro rfl
              obtain ⟨cur, hc, _⟩ := h
              rw [hres] at hc
              simp at hc
            exact (h.set hne _).set hne _
        · rw [← lab_eq nl acc hReps.len (fun j c p a b => (hReps.each j c p a b).lab)]; exact hp
        · intro j c' p hc' hp'
          have hj : j < nl.length := by have := (List.getElem?_eq_some_iff.1 hc').1; have := hL5.len; omega
          have hc := List.getElem?_eq_getElem hj
          obtain ⟨c2, a1, a2, a3, a4⟩ := hL5.done j _ hj hc
          rw [hc'] at a1
          cases a1
          have hr := hR5.each j _ p hc hp'
          have e : edgK ps p.nc j = edgK ps nl[j] j := by unfold edgK; rw [hr.n]; rfl
          rw [e]
          have hres' : (W5.setCell ⟨w.heap.size, 0, none⟩ (.slice (some ⟨g, 0, none⟩) nl.length cp)).heap[w.heap.size]? = some (.cells #[.slice (some ⟨g, 0, none⟩) nl.length cp, .int .i64 0] 37 (0, 0)) := by
            simp [World.setCell, Array.getElem?_modify, hres]
          exact er_set (er_set a3 hres (by decide) 0 _) hres' (by decide) 1 _
theorem parse_any (s : ByteArray) (w : World) (hE : Env w) : Calls Tryd.prog 9 #[.string s] w (PAns w (prs s)) := by
  by_cases h : 3000 < s.size
  · have e : prs s = Pr.syn := by unfold prs; rw [if_pos h]
    rw [e]
    exact parse_long s w (by rw [decide_eq_true_eq]; omega)
  · exact parse_try s w (by omega) hE
end Go.Proofs.YtmipbiligijcpaaDoor
