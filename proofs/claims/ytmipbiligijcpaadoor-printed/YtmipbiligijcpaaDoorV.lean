/- A program printed. -/
import Derived.Test.YtmipbiligijcpaaDoorW16
import Derived.Test.YtmipbiligijcpaaDoorU
namespace Go.Proofs.YtmipbiligijcpaaDoor
set_option linter.unusedVariables false
set_option linter.unusedSimpArgs false
open Go.RowKit Go.Proofs Go.Maps

def jw (ws : List ByteArray) : List UInt8 := match ws with | [] => [] | x :: r => x.data.toList ++ r.flatMap (fun y => 32 :: y.data.toList)
def lbl (b : ByteArray) : List UInt8 := if b.toList.isEmpty then [] else b.data.toList ++ [58, 32]
def lineOf (p : PN) : List UInt8 := lbl p.lab ++ jw p.ws ++ [10]
def prt (pl : List PN) : List UInt8 := pl.flatMap lineOf
theorem jw_snoc (ws : List ByteArray) (x : ByteArray) : jw (ws ++ [x]) = jw ws ++ (if ws = [] then [] else [32]) ++ x.data.toList := by
  cases ws with
  | nil => simp [jw]
  | cons a r => simp [jw]
theorem jw_take (ws : List ByteArray) (k : Nat) (x : ByteArray) (h : ws[k]? = some x) : jw (ws.take (k + 1)) = jw (ws.take k) ++ (if k = 0 then [] else [32]) ++ x.data.toList := by
  have hl := (List.getElem?_eq_some_iff.1 h)
  rw [List.take_succ_eq_append_getElem hl.1, hl.2, jw_snoc]
  congr 2
  by_cases hk : k = 0
  · subst hk; simp
  · have : ws.take k ≠ [] := by
      intro e
      have h3 := congrArg List.length e
      rw [List.length_take, List.length_nil] at h3
      have := hl.1
      omega
    simp [hk, this]
theorem prt_snoc (pl : List PN) (p : PN) : prt (pl ++ [p]) = prt pl ++ lineOf p := by simp [prt]
theorem prt_take (pl : List PN) (k : Nat) (p : PN) (h : pl[k]? = some p) : prt (pl.take (k + 1)) = prt (pl.take k) ++ lineOf p := by
  have hl := (List.getElem?_eq_some_iff.1 h)
  rw [List.take_succ_eq_append_getElem hl.1, hl.2, prt_snoc]
/-- a program that is not too great -/
structure Psz (pl : List PN) : Prop where
  len : pl.length ≤ 60
  lab : ∀ p ∈ pl, p.lab.size ≤ 3000
  ws : ∀ p ∈ pl, Wsz p.ws
theorem flat_le (r : List ByteArray) (h : ∀ x ∈ r, x.size ≤ 3000) : (r.flatMap (fun y => 32 :: y.data.toList)).length ≤ r.length * 3001 := by
  induction r with
  | nil => simp
  | cons a r ih =>
    have h1 := h a (by simp)
    have h2 := ih (fun x hx => h x (by simp [hx]))
    have h3 := Wm.len_data a
    simp only [List.flatMap_cons, List.length_append, List.length_cons] at h2 ⊢
    omega
theorem jw_le (ws : List ByteArray) (h : Wsz ws) : (jw ws).length ≤ 10000000 := by
  cases ws with
  | nil => simp [jw]
  | cons a r =>
    have h1 := h.word a (by simp)
    have h2 := flat_le r (fun x hx => h.word x (by simp [hx]))
    have h3 := Wm.len_data a
    have h4 := h.len
    simp only [jw, List.length_append, List.length_cons] at h2 h4 ⊢
    omega
theorem wsz_take {ws : List ByteArray} (h : Wsz ws) (k : Nat) : Wsz (ws.take k) := ⟨by have := h.len; simp; omega, fun x hx => h.word x (List.mem_of_mem_take hx)⟩
theorem lbl_le (b : ByteArray) (h : b.size ≤ 3000) : (lbl b).length ≤ 3002 := by
  have := Wm.len_data b
  unfold lbl; split <;> simp; omega
theorem line_le (p : PN) (h1 : p.lab.size ≤ 3000) (h2 : Wsz p.ws) : (lineOf p).length ≤ 10010000 := by
  have := lbl_le p.lab h1
  have := jw_le p.ws h2
  simp [lineOf]; omega
theorem prt_le : ∀ (pl : List PN), (∀ p ∈ pl, p.lab.size ≤ 3000) → (∀ p ∈ pl, Wsz p.ws) → (prt pl).length ≤ pl.length * 10010000 := by
  intro pl
  induction pl with
  | nil => intros; simp [prt]
  | cons p r ih =>
    intro h1 h2
    have a := line_le p (h1 p (by simp)) (h2 p (by simp))
    have b := ih (fun x hx => h1 x (by simp [hx])) (fun x hx => h2 x (by simp [hx]))
    simp only [prt, List.flatMap_cons, List.length_append, List.length_cons] at b ⊢
    omega
theorem Psz.take_le {pl : List PN} (h : Psz pl) (k : Nat) : (prt (pl.take k)).length ≤ 700000000 := by
  have := prt_le (pl.take k) (fun p hp => h.lab p (List.mem_of_mem_take hp)) (fun p hp => h.ws p (List.mem_of_mem_take hp))
  have h2 := h.len
  have h3 : (pl.take k).length ≤ 60 := by simp; omega
  omega

/-! ### what a builder's write leaves -/
theorem kp_ne {w : World} {B b : Nat} {l : List UInt8} (h : Bld w B b l) {k : Nat} {c : Array Value} {t : TypeId} {f : Nat × Nat} (hk : w.heap[k]? = some (.cells c t f)) (ht : t ≠ 65) : k ≠ b := by
  rintro rfl
  obtain ⟨_, p, v, _, hb, _⟩ := h
  rw [hk] at hb
  simp at hb
  exact ht hb.2.1
theorem kp_block {w w' : World} {B b : Nat} {l : List UInt8} (h : Bld w B b l) (hk : Kp b w w') {k : Nat} {c : Array Value} {t : TypeId} {f : Nat × Nat} (hc : w.heap[k]? = some (.cells c t f)) (ht : t ≠ 65) (h5 : t ≠ 5) : w'.heap[k]? = w.heap[k]? := by
  rw [hk.keep k _ hc (kp_ne h hc ht) (fun c' f' e => by simp at e; exact h5 e.2.1), hc]
theorem Ws.kp {w w' : World} {B b g off : Nat} {l : List UInt8} {ws : List ByteArray} (h : Ws w g off ws) (hB : Bld w B b l) (hk : Kp b w w') : Ws w' g off ws := by
  obtain ⟨cur, hc, ht⟩ := h
  exact ⟨cur, (kp_block hB hk hc (by decide) (by decide)).trans hc, ht⟩
theorem Nrow.kp {w w' : World} {B b g cap : Nat} {l : List UInt8} {nl : List NC} (h : Nrow w g cap nl) (hB : Bld w B b l) (hk : Kp b w w') : Nrow w' g cap nl := by
  obtain ⟨cur, hc, ht⟩ := h
  exact ⟨cur, (kp_block hB hk hc (by decide) (by decide)).trans hc, ht⟩
theorem Bld.alloc {w : World} {B b : Nat} {l : List UInt8} (h : Bld w B b l) (o : Obj) : Bld (w.alloc o) B b l := by
  obtain ⟨hB, p, v, hp, hb, ho, hn⟩ := h
  exact ⟨hB, p, v, hp, (Below.heap_alloc _ _ _ (Array.getElem?_eq_some_iff.1 hb).1).trans hb, ho.alloc o, hn⟩
theorem reps_alloc {w : World} {nl : List NC} {pl : List PN} (h : Reps w nl pl) (o : Obj) : Reps (w.alloc o) nl pl := h.mono (fun _ _ _ h => h.alloc o)
theorem cells_kp {w w' : World} {B b k : Nat} {l : List UInt8} {cs : Array Value} {t : TypeId} (h : w.heap[k]? = some (.cells cs t (0, 0))) (ht : t ≠ 65) (h5 : t ≠ 5) (hB : Bld w B b l) (hk : Kp b w w') : w'.heap[k]? = some (.cells cs t (0, 0)) :=
  (kp_block hB hk h ht h5).trans h

/-! ### the walk of Print -/
set_option maxHeartbeats 2000000 in
set_option maxRecDepth 100000 in
theorem print_any (g cap : Nat) (nv : Int) (nl : List NC) (pl : List PN) (w : World) (hN : Nrow w g cap nl) (hR : Reps w nl pl) (hz : Psz pl) (h0 : 0 < pl.length) :
    Calls Tryd.prog 10 #[.agg #[.slice (some ⟨g, 0, none⟩) pl.length cap, .int .i64 nv]] w fun e w' => e = .returned (.string ⟨(prt pl).toArray⟩) ∧ Below w.heap.size w w' := by
  have hg := hN.lt
  go_enter Tryd.func10, Tryd.ntmps10
  go_wp2_with fail
  have hBld : Bld ((w.alloc (.cells #[.slice (some ⟨g, 0, none⟩) pl.length cap, .int .i64 nv] 37)).alloc (.cells #[.pointer none, .slice none 0 0] 65)) w.heap.size (w.heap.size + 1) [] := by
    refine ⟨by omega, _, _, Or.inl rfl, ?_, World.ownsRow_nil _ _ _ _, by simp [Value.ownBlock]⟩
    have := heap_alloc_new (w.alloc (.cells #[.slice (some ⟨g, 0, none⟩) pl.length cap, .int .i64 nv] 37)) (.cells #[.pointer none, .slice none 0 0] 65)
    simpa using this
  go_loopw [11] (fun i wr => ∃ (k : Nat), k ≤ pl.length ∧ i = .int .i64 k ∧ Bld wr w.heap.size (w.heap.size + 1) (prt (pl.take k)) ∧ Nrow wr g cap nl ∧ Reps wr nl pl ∧ Below w.heap.size w wr) (fun i _ => pl.length - (intOf i).toNat)
  case atStart =>
    exact ⟨0, Nat.zero_le _, rfl, hBld, (hN.alloc _).alloc _, reps_alloc (reps_alloc hR _) _, ((Below.refl _ _).alloc (Nat.le_refl _) _).alloc (by simp) _⟩
  case round =>
    clear hBld hN hR
    obtain ⟨k, hk, rfl, hB, hN, hR, hb⟩ := hrel
    have hlen := hR.len
    have hbz := hb.size
    by_cases hlt : k < pl.length
    · obtain ⟨p, hp⟩ : ∃ p, pl[k]? = some p := ⟨_, List.getElem?_eq_getElem hlt⟩
      obtain ⟨c, hc⟩ : ∃ c, nl[k]? = some c := ⟨_, List.getElem?_eq_getElem (by omega)⟩
      obtain ⟨q0, q1, q2, q3, q4, q5, q6, q7, q8, q9, q10, q11, q12, q13⟩ := hN.all k c hc
      have hrep := hR.each k c p hc hp
      have hWz := hz.ws p (List.mem_of_getElem? hp)
      have hLz := hz.lab p (List.mem_of_getElem? hp)
      have hwl := hWz.len
      have hp60 := hz.len
      have hTz := hz.take_le k
      have hPz : ∀ m, (prt (pl.take k) ++ lbl p.lab ++ jw (p.ws.take m)).length ≤ 800000000 := by
        intro m
        have h1 := lbl_le p.lab hLz
        have h2 := jw_le (p.ws.take m) (wsz_take hWz m)
        simp only [List.length_append]
        omega
      have HPZ : Hid (∀ m, (prt (pl.take k) ++ lbl p.lab ++ jw (p.ws.take m)).length ≤ 800000000) := hPz
      clear hPz
      have hlti : (k : Int) < (pl.length : Int) := by omega
      obtain ⟨ga, oa, hwa, hWs⟩ := hrep.ws
      obtain ⟨lab, wa, wl, wc, n, ea, el, ec⟩ := c
      obtain ⟨rfl, rfl, _, rfl⟩ := hrep
      simp only at hwa
      subst hwa
      simp only at q0 q1 q2 q3 q4 q5 q6 q7 q8 q9 q10 q11 q12 q13
      have hPz := HPZ.out
      cases hem : p.lab.toList.isEmpty with
      | true =>
        have HL : Hid (lbl p.lab = []) := by show _ = _; unfold lbl; rw [hem]; rfl
        clear hPz
        go_wp2_with fail
        have hPz := HPZ.out
        have HPQ : Hid (∀ m, (prt (pl.take k) ++ lbl p.lab ++ jw (p.ws.take m)).length ≤ 800000000) := hPz
        clear hPz
        go_loopw [25] (fun i wx => ∃ (m : Nat), m ≤ p.ws.length ∧ i = .int .i64 m ∧ Bld wx w.heap.size (w.heap.size + 1) (prt (pl.take k) ++ lbl p.lab ++ jw (p.ws.take m)) ∧ Nrow wx g cap nl ∧ Reps wx nl pl ∧ Ws wx ga oa p.ws ∧ Below w.heap.size w wx) (fun i _ => p.ws.length - (intOf i).toNat)
        case atStart => exact ⟨0, Nat.zero_le _, rfl, by rw [HL.out]; simpa [jw] using hB.alloc _, hN.alloc _, reps_alloc hR _, hWs.alloc _, hb.alloc hbz _⟩
        case round =>
          clear hB hN hR hb hWs q0 q1 q2 q3 q4 q5 q6 q7 q8 q9 q10 q11 q12 q13
          obtain ⟨m, hm, rfl, hB, hN, hR, hW, hb⟩ := hrel
          have hbz2 := hb.size
          have hJ := HPQ.out m
          by_cases hml : m < p.ws.length
          · obtain ⟨x, hx⟩ : ∃ x, p.ws[m]? = some x := ⟨_, List.getElem?_eq_getElem hml⟩
            have hxc := hW.cell m x hx
            have hxs' := hWz.word x (List.mem_of_getElem? hx)
            have hJ4 : (prt (pl.take k) ++ lbl p.lab ++ jw (p.ws.take m) ++ [32]).length + x.size ≤ 140737488355328 := by rw [List.length_append, List.length_singleton]; omega
            have hxs := hWz.word x (List.mem_of_getElem? hx)
            have hmi : (m : Int) < (p.ws.length : Int) := by omega
            have HT : Hid (jw (p.ws.take (m + 1)) = jw (p.ws.take m) ++ (if m = 0 then [] else [32]) ++ x.data.toList) := jw_take p.ws m x hx
            by_cases h0 : m = 0
            · subst h0
              have hxc0 : wr.cell? ⟨ga, oa, none⟩ = some (.string x) := hxc
              clear hxc hJ4
              go_wp2_with (go_at_call 17; refine (writeString_any w.heap.size (w.heap.size + 1) _ x _ hB (by omega) (by omega)).mono ?_; rintro e W5 ⟨⟨_, rfl⟩, hB5, hk5, hb5⟩)
              go_roundw
              case rel =>
                refine ⟨1, by omega, by go_num, ?_, hN.kp hB hk5, hR.mono (fun _ _ _ h => h.kp hB hk5), hW.kp hB hk5, hb.trans hb5⟩
                rw [HT.out]
                simpa [List.append_assoc] using hB5
              case measure => simp [intOf]; omega
            · have hm0 : decide (0 < (m : Int)) = true := by rw [decide_eq_true_eq]; omega
              go_wp2_with (first
                | (go_at_call 18; refine (writeByte_any w.heap.size (w.heap.size + 1) _ 32 _ hB (by omega) (by omega)).mono ?_; rintro e W4 ⟨rfl, hB4, hk4, hb4⟩; have hbz4 := hb4.size)
                | (go_at_call 17; refine (writeString_any w.heap.size (w.heap.size + 1) _ x _ hB4 hJ4 (by omega)).mono ?_; rintro e W5 ⟨⟨_, rfl⟩, hB5, hk5, hb5⟩))
              go_roundw
              case rel =>
                refine ⟨m + 1, by omega, by go_num, ?_, (hN.kp hB hk4).kp hB4 hk5, (hR.mono (fun _ _ _ h => h.kp hB hk4)).mono (fun _ _ _ h => h.kp hB4 hk5), (hW.kp hB hk4).kp hB4 hk5, (hb.trans hb4).trans hb5⟩
                rw [HT.out, if_neg h0]
                simpa [List.append_assoc] using hB5
              case measure => simp [intOf]; omega
          · obtain rfl : m = p.ws.length := by omega
            rw [List.take_length] at hB hJ
            go_wp2_with (go_at_call 18; refine (writeByte_any w.heap.size (w.heap.size + 1) _ 10 _ hB (by omega) (by omega)).mono ?_; rintro e W4 ⟨rfl, hB4, hk4, hb4⟩)
            go_roundw
            case rel =>
              refine ⟨k + 1, by omega, by go_num, ?_, hN.kp hB hk4, hR.mono (fun _ _ _ h => h.kp hB hk4), hb.trans hb4⟩
              rw [prt_take pl k p hp]
              simpa [lineOf, List.append_assoc] using hB4
            case measure => simp [intOf]; omega
      | false =>
        have HL : Hid (lbl p.lab = p.lab.data.toList ++ [58, 32]) := by show _ = _; unfold lbl; rw [hem]; rfl
        have HPQ : Hid (∀ m, (prt (pl.take k) ++ lbl p.lab ++ jw (p.ws.take m)).length ≤ 800000000) := hPz
        clear hPz
        go_wp2_with (first
          | (go_at_call_of 17 (Value.string p.lab); refine (writeString_any w.heap.size (w.heap.size + 1) _ p.lab _ (hB.alloc _) (by omega) (by simp; omega)).mono ?_; rintro e W2 ⟨⟨_, rfl⟩, hB2, hk2, hb2⟩; have hbx := cells_kp (heap_alloc_new wr _) (by decide) (by decide) (hB.alloc _) hk2; obtain ⟨hx1, hx2⟩ := box_cells hbx; have hbz2 := hb2.size; have hnb : wr.heap.size < W2.heap.size := (Array.getElem?_eq_some_iff.1 hbx).1)
          | (go_at_call 17; refine (writeString_any w.heap.size (w.heap.size + 1) _ ⟨#[58, 32]⟩ _ hB2 (by simp; have : (ByteArray.mk #[58, 32]).size = 2 := rfl; omega) (by simp at hbz2; omega)).mono ?_; rintro e W3 ⟨⟨_, rfl⟩, hB3, hk3, hb3⟩; have hby := cells_kp hbx (by decide) (by decide) hB2 hk3; clear hx1 hx2; obtain ⟨hx1, hx2⟩ := box_cells hby))
        go_loopw [25] (fun i wx => ∃ (m : Nat), m ≤ p.ws.length ∧ i = .int .i64 m ∧ Bld wx w.heap.size (w.heap.size + 1) (prt (pl.take k) ++ lbl p.lab ++ jw (p.ws.take m)) ∧ Nrow wx g cap nl ∧ Reps wx nl pl ∧ Ws wx ga oa p.ws ∧ Below w.heap.size w wx) (fun i _ => p.ws.length - (intOf i).toNat)
        case atStart => exact ⟨0, Nat.zero_le _, rfl, by rw [HL.out]; simpa [jw, List.append_assoc] using hB3, ((hN.alloc _).kp (hB.alloc _) hk2).kp hB2 hk3, ((reps_alloc hR _).mono (fun _ _ _ h => h.kp (hB.alloc _) hk2)).mono (fun _ _ _ h => h.kp hB2 hk3), ((hWs.alloc _).kp (hB.alloc _) hk2).kp hB2 hk3, ((hb.alloc hbz _).trans hb2).trans hb3⟩
        case round =>
          clear hB hN hR hb hWs hB2 hB3 hk2 hk3 hb2 hb3 hbx hby hx1 hx2 q0 q1 q2 q3 q4 q5 q6 q7 q8 q9 q10 q11 q12 q13
          obtain ⟨m, hm, rfl, hB, hN, hR, hW, hb⟩ := hrel
          have hbz2 := hb.size
          have hJ := HPQ.out m
          by_cases hml : m < p.ws.length
          · obtain ⟨x, hx⟩ : ∃ x, p.ws[m]? = some x := ⟨_, List.getElem?_eq_getElem hml⟩
            have hxc := hW.cell m x hx
            have hxs' := hWz.word x (List.mem_of_getElem? hx)
            have hJ4 : (prt (pl.take k) ++ lbl p.lab ++ jw (p.ws.take m) ++ [32]).length + x.size ≤ 140737488355328 := by rw [List.length_append, List.length_singleton]; omega
            have hxs := hWz.word x (List.mem_of_getElem? hx)
            have hmi : (m : Int) < (p.ws.length : Int) := by omega
            have HT : Hid (jw (p.ws.take (m + 1)) = jw (p.ws.take m) ++ (if m = 0 then [] else [32]) ++ x.data.toList) := jw_take p.ws m x hx
            by_cases h0 : m = 0
            · subst h0
              have hxc0 : wr.cell? ⟨ga, oa, none⟩ = some (.string x) := hxc
              clear hxc hJ4
              go_wp2_with (go_at_call 17; refine (writeString_any w.heap.size (w.heap.size + 1) _ x _ hB (by omega) (by omega)).mono ?_; rintro e W5 ⟨⟨_, rfl⟩, hB5, hk5, hb5⟩)
              go_roundw
              case rel =>
                refine ⟨1, by omega, by go_num, ?_, hN.kp hB hk5, hR.mono (fun _ _ _ h => h.kp hB hk5), hW.kp hB hk5, hb.trans hb5⟩
                rw [HT.out]
                simpa [List.append_assoc] using hB5
              case measure => simp [intOf]; omega
            · have hm0 : decide (0 < (m : Int)) = true := by rw [decide_eq_true_eq]; omega
              go_wp2_with (first
                | (go_at_call 18; refine (writeByte_any w.heap.size (w.heap.size + 1) _ 32 _ hB (by omega) (by omega)).mono ?_; rintro e W4 ⟨rfl, hB4, hk4, hb4⟩; have hbz4 := hb4.size)
                | (go_at_call 17; refine (writeString_any w.heap.size (w.heap.size + 1) _ x _ hB4 hJ4 (by omega)).mono ?_; rintro e W5 ⟨⟨_, rfl⟩, hB5, hk5, hb5⟩))
              go_roundw
              case rel =>
                refine ⟨m + 1, by omega, by go_num, ?_, (hN.kp hB hk4).kp hB4 hk5, (hR.mono (fun _ _ _ h => h.kp hB hk4)).mono (fun _ _ _ h => h.kp hB4 hk5), (hW.kp hB hk4).kp hB4 hk5, (hb.trans hb4).trans hb5⟩
                rw [HT.out, if_neg h0]
                simpa [List.append_assoc] using hB5
              case measure => simp [intOf]; omega
          · obtain rfl : m = p.ws.length := by omega
            rw [List.take_length] at hB hJ
            go_wp2_with (go_at_call 18; refine (writeByte_any w.heap.size (w.heap.size + 1) _ 10 _ hB (by omega) (by omega)).mono ?_; rintro e W4 ⟨rfl, hB4, hk4, hb4⟩)
            go_roundw
            case rel =>
              refine ⟨k + 1, by omega, by go_num, ?_, hN.kp hB hk4, hR.mono (fun _ _ _ h => h.kp hB hk4), hb.trans hb4⟩
              rw [prt_take pl k p hp]
              simpa [lineOf, List.append_assoc] using hB4
            case measure => simp [intOf]; omega
    · obtain rfl : k = pl.length := by omega
      rw [List.take_length] at hB
      have hne : prt pl ≠ [] := by
        cases pl with
        | nil => simp at h0
        | cons p r => simp [prt, lineOf]
      have HNE := (show Hid (prt pl ≠ []) from hne)
      clear hne
      go_wp2_with (go_at_call 19; refine (builderString_any w.heap.size (w.heap.size + 1) _ _ hB HNE.out).mono ?_; rintro e W4 ⟨rfl, hb4⟩)
      go_ret
      exact ⟨rfl, hb.trans hb4⟩

/-! ### warrant.Print -/
theorem wsz_drop {ws : List ByteArray} (h : Wsz ws) (k : Nat) : Wsz (ws.drop k) := ⟨by have := h.len; simp; omega, fun x hx => h.word x (List.mem_of_mem_drop hx)⟩
theorem rdl_sz : ∀ (L : List (List ByteArray)) (vs : List Nam) (acc pl : List PN) (vs' : List Nam), (∀ ws ∈ L, Wsz ws) → (∀ p ∈ acc, p.lab.size ≤ 3000 ∧ Wsz p.ws) → rdl vs acc L = some (pl, vs') → ∀ p ∈ pl, p.lab.size ≤ 3000 ∧ Wsz p.ws := by
  intro L
  induction L with
  | nil => intro vs acc pl vs' _ ha h; simp [rdl] at h; rw [← h.1]; exact ha
  | cons ws r ih =>
    intro vs acc pl vs' hL ha h
    have hz := hL ws (by simp)
    rw [rdl] at h
    split at h
    · exact ih vs acc pl vs' (fun x hx => hL x (by simp [hx])) ha h
    · split at h
      · refine ih _ _ pl vs' (fun x hx => hL x (by simp [hx])) ?_ h
        intro p hp
        rcases List.mem_append.1 hp with hp | hp
        · exact ha p hp
        · simp at hp; subst hp; exact ⟨(lin_sz vs ws hz).1, wsz_drop hz _⟩
      · cases h
theorem lnW_sz (s : ByteArray) (h : s.size ≤ 3000) : ∀ ws ∈ lnW s, Wsz ws := by
  intro ws hws
  obtain ⟨x, hx, rfl⟩ := List.mem_map.1 hws
  exact wds_sz x (by have := lnB_size s x hx; omega)
theorem prs_ok {s : ByteArray} {pl : List PN} {vs : List Nam} (h : prs s = Pr.ok pl vs) : Psz pl ∧ 0 < pl.length ∧ progOk pl vs = true ∧ rdl [] [] (lnW s) = some (pl, vs) ∧ s.size ≤ 3000 := by
  unfold prs at h
  split at h
  · cases h
  · rename_i hs
    split at h
    · cases h
    · rename_i pl' vs' hr
      split at h
      · rename_i hp
        cases h
        have hz := rdl_sz (lnW s) [] [] pl vs (lnW_sz s (by omega)) (by simp) hr
        have hp' := hp
        simp only [progOk, Bool.and_eq_true, decide_eq_true_eq] at hp'
        exact ⟨⟨hp'.1.2, fun p hp => (hz p hp).1, fun p hp => (hz p hp).2⟩, hp'.1.1.2, hp, hr, by omega⟩
      · cases h
/-- what Print answers -/
def prn (s : ByteArray) : ByteArray := match prs s with | .inr (pl, _) => ⟨(prt pl).toArray⟩ | _ => ⟨#[]⟩
def prE (s : ByteArray) : Int := match prs s with | .inr (_, _) => 0 | .inl false => 1 | .inl true => 2

set_option maxHeartbeats 1000000 in
set_option maxRecDepth 100000 in
theorem wPrint_any (s : ByteArray) (w : World) (hE : Env w) :
    Calls Tryd.prog 5 #[.string s] w fun e w' => e = .returned (.tuple #[.string (prn s), .int .i64 (prE s)]) ∧ Below w.heap.size w w' := by
  have hP := parse_any s w hE
  rcases hr : prs s with b | ⟨pl, vs⟩
  · cases b with
    | false =>
      rw [hr] at hP
      have HA : Hid (prn s = ⟨#[]⟩ ∧ prE s = 1) := ⟨by unfold prn; rw [hr], by unfold prE; rw [hr]⟩
      clear hr
      go_enter Tryd.func5, Tryd.ntmps5
      go_wp2_with (go_at_call 9; refine hP.mono ?_; rintro e W1 ⟨hb1, rfl⟩)
      go_ret2
      rw [HA.out.1, HA.out.2]
      exact ⟨rfl, hb1.alloc hb1.size _⟩
    | true =>
      rw [hr] at hP
      have HA : Hid (prn s = ⟨#[]⟩ ∧ prE s = 2) := ⟨by unfold prn; rw [hr], by unfold prE; rw [hr]⟩
      clear hr
      go_enter Tryd.func5, Tryd.ntmps5
      go_wp2_with (go_at_call 9; refine hP.mono ?_; rintro e W1 ⟨hb1, rfl⟩)
      go_ret2
      rw [HA.out.1, HA.out.2]
      exact ⟨rfl, hb1.alloc hb1.size _⟩
  · skip
    obtain ⟨hz, h0, _⟩ := prs_ok hr
    rw [hr] at hP
    have HA : Hid (prn s = ⟨(prt pl).toArray⟩ ∧ prE s = 0) := ⟨by unfold prn; rw [hr], by unfold prE; rw [hr]⟩
    clear hr
    go_enter Tryd.func5, Tryd.ntmps5
    go_wp2_with (first
      | (go_at_call 9; refine hP.mono ?_; rintro e W1 ⟨hb1, g, cap, nl, ps, rfl, hgB, hN, hR, hps, hEr⟩)
      | (go_at_call 10; refine (print_any g cap _ nl pl _ (hN.alloc _) (reps_alloc hR _) hz h0).mono ?_; rintro e W2 ⟨rfl, hb2⟩))
    go_ret2
    rw [HA.out.1, HA.out.2]
    exact ⟨rfl, (hb1.alloc hb1.size _).trans (hb2.mono (by have := hb1.size; simp; omega))⟩
end Go.Proofs.YtmipbiligijcpaaDoor
