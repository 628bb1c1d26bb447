/- Coded: comparing lists of nodes, and the walk. -/
import Derived.Test.YtmipbiligijcpaaK5
import Derived.OwnWalk
namespace Go.Proofs.Ytmipbiligijcpaa
set_option linter.unusedVariables false
set_option linter.unusedSimpArgs false
open Go.RowKit Go.Proofs Go.Maps

set_option maxHeartbeats 2000000 in
set_option maxRecDepth 100000 in
theorem ksameNodes_any (na1 na2 : Option Addr) (nc1 nc2 : Nat) (ns : List Nd) (w : World) (h1 : NodesAt w na1 ns) (h2 : NodesAt w na2 ns) (hn : ∀ n ∈ ns, NdIn n) (hl : ns.length * 88 ≤ 140737488355328) :
    Calls Try.prog 12 #[.slice na1 ns.length nc1, .slice na2 ns.length nc2] w fun e w' => e = .returned (.bool true) ∧ Below w.heap.size w w' := by
  have HH := (show Hid _ from And.intro h1 (And.intro h2 hn))
  clear h1 h2 hn
  have l3 : ((ns.length : Int) != (ns.length : Int)) = false := by simp
  go_enter Try.func12, Try.ntmps12
  go_wp2_with fail
  go_loopw [5] (fun i wr => ∃ k : Nat, k ≤ ns.length ∧ i = .int .i64 k ∧ Hid (Below w.heap.size w wr)) (fun i _ => ns.length - (intOf i).toNat)
  case atStart => exact ⟨0, Nat.zero_le _, rfl, Below.refl _ _⟩
  case round =>
    obtain ⟨k, hk, rfl, HK⟩ := hrel
    by_cases hlt : k < ns.length
    · have hlti : (k : Int) < (ns.length : Int) := by omega
      obtain ⟨n, hx⟩ : ∃ n, ns[k]? = some n := ⟨_, List.getElem?_eq_getElem hlt⟩
      obtain ⟨b1, o1, fa1, ra1, va1, fc1, rc1, vc1, rfl, c0, c1, c2, c3, c4, hat1⟩ := (HH.out.1.below HK.out) k n hx
      obtain ⟨b2, o2, fa2, ra2, va2, fc2, rc2, vc2, rfl, d0, d1, d2, d3, d4, hat2⟩ := (HH.out.2.1.below HK.out) k n hx
      have HX := (show Hid _ from And.intro hat1 (And.intro hat2 (HH.out.2.2 n (List.mem_of_getElem? hx))))
      have HD := (show Hid _ from And.intro c0 (And.intro c1 (And.intro c2 (And.intro c3 (And.intro c4 (And.intro d0 (And.intro d1 (And.intro d2 (And.intro d3 d4)))))))))
      clear hx hat1 hat2
      go_wp2_with fail
      go_region_held3 (fun w' => w'.cell? ⟨b1, o1 + k * 5, none⟩ = some (.slice fa1 n.facts.length fc1) ∧ w'.cell? ⟨b1, o1 + k * 5 + 1, none⟩ = some (.slice ra1 n.ranks.length rc1) ∧ w'.cell? ⟨b1, o1 + k * 5 + 2, none⟩ = some (.bool n.reached) ∧ w'.cell? ⟨b1, o1 + k * 5 + 3, none⟩ = some (.int .i64 n.rank) ∧ w'.cell? ⟨b1, o1 + k * 5 + 4, none⟩ = some (.slice va1 n.vals.length vc1) ∧ w'.cell? ⟨b2, o2 + k * 5, none⟩ = some (.slice fa2 n.facts.length fc2) ∧ w'.cell? ⟨b2, o2 + k * 5 + 1, none⟩ = some (.slice ra2 n.ranks.length rc2) ∧ w'.cell? ⟨b2, o2 + k * 5 + 2, none⟩ = some (.bool n.reached) ∧ w'.cell? ⟨b2, o2 + k * 5 + 3, none⟩ = some (.int .i64 n.rank) ∧ w'.cell? ⟨b2, o2 + k * 5 + 4, none⟩ = some (.slice va2 n.vals.length vc2)) (go_keep) ((go_at_call 24; refine (ksameNode_any fa1 ra1 va1 fa2 ra2 va2 fc1 rc1 vc1 fc2 rc2 vc2 n _ (HX.out.1.below (Below.refl wr.heap.size wr).drew) (HX.out.2.1.below (Below.refl wr.heap.size wr).drew) HX.out.2.2).mono ?_; rintro e W3 ⟨rfl, b3⟩; have b4 := below_trans (Below.refl wr.heap.size wr).drew b3; have c0 := cell_stays HD.out.1 b4; have c1 := cell_stays HD.out.2.1 b4; have c2 := cell_stays HD.out.2.2.1 b4; have c3 := cell_stays HD.out.2.2.2.1 b4; have c4 := cell_stays HD.out.2.2.2.2.1 b4; have d0 := cell_stays HD.out.2.2.2.2.2.1 b4; have d1 := cell_stays HD.out.2.2.2.2.2.2.1 b4; have d2 := cell_stays HD.out.2.2.2.2.2.2.2.1 b4; have d3 := cell_stays HD.out.2.2.2.2.2.2.2.2.1 b4; have d4 := cell_stays HD.out.2.2.2.2.2.2.2.2.2 b4; have H3 := (show Hid _ from below_trans HK.out b4); clear b3 b4))
      all_goals
        clear c0 c1 c2 c3 c4 d0 d1 d2 d3 d4
        go_wp2_with fail
        go_roundw
        case rel => exact ⟨k + 1, by omega, by go_num, H3⟩
        case measure => simp [intOf]; omega
    · have hlti : ¬ (k : Int) < (ns.length : Int) := by omega
      go_wp2_with fail
      go_ret
      exact ⟨rfl, HK.out⟩

def ct3 : Ct := ⟨2, 2, [nd0b, nd0b, nd0b]⟩
theorem ct3_in : CtIn ct3 := ⟨i64_3 (x := 2) (by omega) (by omega), i64_3 (x := 2) (by omega) (by omega), (fun n hn => by simp [ct3] at hn; subst hn; exact ndin_0), by simp [ct3]⟩
theorem ct3_enc : encR ct3 = (⟨#[87, 67, 1, 2, 2, 3, 0, 0, 0]⟩, 0) := by
  have h1 : encB ct3 = [87, 67, 1, 2, 2, 3, 0, 0, 0] := by simp [encB, headB, nodeB, setB, cnt_small, deltas, ct3, nd0b]
  have h2 : okC ct3 = true := by decide
  unfold encR enc
  rw [h1, h2]
  rfl
theorem made3' : (madeCells (Value.agg #[.slice none 0 0, .slice none 0 0, .bool false, .int .i64 0, .slice none 0 0]).cells (3 * 5)).toList = nRow [n5z, n5z, n5z] := by kernel_rfl
theorem at3' {w : World} {B oc : Nat} {oa : Option Addr} (h : w.ownsRow B 50 5 (.slice oa 3 oc) 3 (nRow [n5z, n5z, n5z])) : NodesAt w oa ct3.nodes :=
  nodes_own (cl := [n5z, n5z, n5z]) h (B2 := 0) (fun c hc => by simp at hc; subst hc; exact ⟨World.ownsRow_nil _ _ _ _, World.ownsRow_nil _ _ _ _, World.ownsRow_nil _ _ _ _, fun _ => rfl, fun _ => rfl, fun _ => rfl⟩)
theorem encR_some {c : Ct} (h : okC c = true) (hl : (encB c).length ≤ 60000) : encR c = (⟨(encB c).toArray⟩, 0) := by
  unfold encR enc
  rw [h, decide_eq_true hl]
  rfl
theorem encR_none {c : Ct} (h : ¬ (okC c = true ∧ (encB c).length ≤ 60000)) : encR c = (⟨#[]⟩, 5) := by
  have h2 : (okC c && decide ((encB c).length ≤ 60000)) = false := by
    rw [Bool.eq_false_iff]
    intro h3
    rw [Bool.and_eq_true, decide_eq_true_eq] at h3
    exact h h3
  unfold encR enc
  rw [h2]
  rfl
set_option maxHeartbeats 2000000 in
set_option maxRecDepth 100000 in
theorem coded_any (na : Option Addr) (nc : Nat) (c : Ct) (s : ByteArray) (w : World) (h : NodesAt w na c.nodes) (hc : CtIn c) :
    Calls Try.prog 5 #[.agg #[.int .i64 c.problem, .int .i64 c.grade, .slice na c.nodes.length nc], .string s] w fun e w' => e = .returned (.bool true) ∧ Below w.heap.size w w' := by
  have HH := (show Hid _ from And.intro h hc)
  clear h hc
  obtain ⟨i0, hi, hz0, hz1, hz2⟩ := info_parts infoNd
  have HI := (show Hid _ from And.intro hi (And.intro hz0 (And.intro hz1 hz2)))
  clear hi hz0 hz1 hz2
  have ha1 : ∀ oa oc W, NodesAt W oa ct3.nodes → Calls Try.prog 10 #[.agg #[.int .i64 2, .int .i64 2, .slice oa 3 oc]] W fun e w' => e = .returned (.tuple #[.string ⟨#[87, 67, 1, 2, 2, 3, 0, 0, 0]⟩, .int .i64 0]) ∧ Below W.heap.size W w' := fun oa oc W h => by
    have := wEncode_any oa oc ct3 W h ct3_in
    rw [ct3_enc] at this
    exact this
  have HA := (show Hid _ from ha1)
  clear ha1
  go_enter Try.func5, Try.ntmps5
  go_upto_region 1 with (fail)
  generalize hV : w.alloc (.cells #[.int .i64 c.problem, .int .i64 c.grade, .slice na c.nodes.length nc] 24) = W0
  have HB : Hid (Below w.heap.size w W0 ∧ W0.heap[w.heap.size]? = some (.cells #[.int .i64 c.problem, .int .i64 c.grade, .slice na c.nodes.length nc] 24 (0, 0))) := by
    subst hV
    exact ⟨below1 _ _, heap_alloc_new w _⟩
  have e0 := (Array.getElem?_eq_some_iff.1 HB.out.2).1
  clear hV
  go_upto_region 2 with (first
    | (at_make; refine wpList_make_full _ rfl (.const (.int .i64 3)) (.const (.int .i64 3)) 22 rfl W0.heap.size 50 i0 _ 5 Try.underlying22 HI.out.1 HI.out.2.1 HI.out.2.2.1 .i64 .i64 3 3 3 rfl rfl rfl rfl (by rw [HI.out.2.2.2]; decide) (by unfold maxLen; decide) (Nat.le_refl _) ?_; intro W1 hown1 hgrow1; rw [made3'] at hown1; have H1 := (show Hid _ from And.intro (at3' hown1) (below_from (Below.refl _ _) hgrow1 (fun q hq => by cases hq) (Below.refl _ _))); clear hown1 hgrow1)
    | (go_at_call 10; refine (HA.out _ _ _ H1.out.1).mono ?_; rintro e W2 ⟨rfl, b2⟩; have H2 := (show Hid _ from below_trans H1.out.2 b2); clear b2))
  have HW2 : Hid (Below w.heap.size w W2) := below_trans HB.out.1 H2.out
  have hz2 := HW2.out.size
  obtain ⟨x1, x2⟩ := box_cells ((H2.out.block _ e0).trans HB.out.2)
  have hs0 : ((⟨#[87, 67, 1, 2, 2, 3, 0, 0, 0]⟩ : ByteArray).toList == [87, 67, 1, 2, 2, 3, 0, 0, 0]) = true := by rw [ByteArray.toList_eq]; rfl
  by_cases hok : okC c = true ∧ (encB c).length ≤ 60000
  · have hE := encR_some hok.1 hok.2
    have hcall := fun W hb => wEncode_any na nc c W (HH.out.1.below hb) HH.out.2
    rw [hE] at hcall
    have HE := (show Hid _ from hcall)
    have hne : (encB c).isEmpty = false := by simp [encB, headB]
    have hd1 : dec (⟨(encB c).toArray⟩ : ByteArray).data.toList = some c := dec_complete hok.1 HH.out.2 hok.2
    have hd2 : dec ((⟨(encB c).toArray⟩ : ByteArray) ++ (⟨#[0]⟩ : ByteArray)).data.toList = none := by
      rw [ByteArray.data_append, Array.toList_append]
      exact dec_more hok.1 HH.out.2 0
    have hbig : ¬ 9223372036854775807 < (encB c).length + 1 := by omega
    have HD := (show Hid _ from And.intro hd1 hd2)
    clear hcall hE hok hd1 hd2
    go_wp2_with (go_at_call 10; refine (HE.out _ HW2.out).mono ?_; rintro e W3 ⟨rfl, b3⟩)
    refine (wDecode_any _ W3).mono ?_
    rintro e W4 ⟨h4, b4⟩
    obtain ⟨la, lc, rfl, hat4⟩ : ∃ la lc, e = .returned (.tuple #[.agg #[.int .i64 c.problem, .int .i64 c.grade, .slice la c.nodes.length lc], .int .i64 0]) ∧ NodesAt W4 la c.nodes := by
      rcases h4 with ⟨c', cl, la, lc, e1, e2, e3, e4, e5, _⟩ | ⟨e1, _⟩
      · rw [HD.out.1] at e1
        cases e1
        refine ⟨la, lc, e3, ?_⟩
        have hl : c.nodes.length = cl.length := by rw [e2]; simp
        have hh := nodes_own (a := la) (n := c.nodes.length) (k := lc) (B := W3.heap.size) (cl := cl) (by rw [← hl]; exact e4) (fun x hx => (e5 x hx).own)
        rw [e2]
        exact hh
      · rw [HD.out.1] at e1; cases e1
    have hb04 := below_trans H2.out (below_trans b3 b4)
    have hb4 := below_trans HB.out.1 hb04
    have kx := (hb04.block _ e0).trans HB.out.2
    have ez4 : w.heap.size < W4.heap.size := by have := (below_trans b3 b4).size; have := H2.out.size; omega
    have H4 := (show Hid _ from And.intro hat4 (And.intro hb4 kx))
    clear x1 x2 h4 hat4 b3 b4
    obtain ⟨x1, x2⟩ := box_cells kx
    clear hb4 hb04 kx
    go_wp2_with fail
    obtain ⟨V4, hV4⟩ : ∃ V, V = W4.alloc (.cells #[.int .i64 c.problem, .int .i64 c.grade, .slice la c.nodes.length lc] 24) := ⟨_, rfl⟩
    rw [← hV4]
    have b45 : Below W4.heap.size W4 V4 := by rw [hV4]; exact below1 _ _
    have kd : V4.heap[W4.heap.size]? = some (.cells #[.int .i64 c.problem, .int .i64 c.grade, .slice la c.nodes.length lc] 24 (0, 0)) := by rw [hV4]; exact heap_alloc_new _ _
    have kc := (b45.block _ ez4).trans H4.out.2.2
    refine (ksameNodes_any la na lc nc c.nodes V4 (H4.out.1.below b45) (HH.out.1.below (below_trans H4.out.2.1 b45)) HH.out.2.nodes HH.out.2.sz).mono ?_
    rintro e W5 ⟨rfl, b5⟩
    have kd5 := (b5.block _ (Array.getElem?_eq_some_iff.1 kd).1).trans kd
    have kc5 := (b5.block _ (Array.getElem?_eq_some_iff.1 kc).1).trans kc
    have H5 := (show Hid _ from And.intro kd5 (And.intro kc5 (below_trans H4.out.2.1 (below_trans b45 b5))))
    clear x1 x2 hV4 b45 kd kc b5 kd5 kc5
    go_wp2_with fail
    obtain ⟨x1, x2⟩ := box_cells H5.out.1
    obtain ⟨y1, y2⟩ := box_cells H5.out.2.1
    refine (wDecode_any _ W5).mono ?_
    rintro e W8 ⟨h8, b8⟩
    obtain rfl : e = .returned (.tuple #[.agg #[.int .i64 0, .int .i64 0, .slice none 0 0], .int .i64 5]) := by
      rcases h8 with ⟨c', cl, la, lc, e1, _⟩ | ⟨_, h8⟩
      · rw [HD.out.2] at e1; cases e1
      · exact h8
    have kd8 := (b8.block _ (Array.getElem?_eq_some_iff.1 H5.out.1).1).trans H5.out.1
    have kc8 := (b8.block _ (Array.getElem?_eq_some_iff.1 H5.out.2.1).1).trans H5.out.2.1
    have H8 := (show Hid _ from below_trans H5.out.2.2 b8)
    clear x1 x2 y1 y2 h8 b8
    obtain ⟨x1, x2⟩ := box_cells kd8
    obtain ⟨y1, y2⟩ := box_cells kc8
    clear H5
    have ez8 : W4.heap.size < W8.heap.size := (Array.getElem?_eq_some_iff.1 kd8).1
    have ez9 : w.heap.size < W8.heap.size := (Array.getElem?_eq_some_iff.1 kc8).1
    have l1 : (c.problem != c.problem) = false := by simp
    have l2 : (c.grade != c.grade) = false := by simp
    clear kd8 kc8
    go_wp2_with fail
    obtain ⟨V8, hV8⟩ : ∃ V, V = W8.alloc (.cells #[.int .i64 0, .int .i64 0, .slice none 0 0] 24) := ⟨_, rfl⟩
    rw [← hV8]
    have H5 : Hid (Below w.heap.size w V8) := by rw [hV8]; exact below_trans H8.out (below1 _ _)
    clear x1 x2 y1 y2 H8 hV8
    refine (wDecode_any _ V8).mono ?_
    rintro e W6 ⟨h6, b6⟩
    rcases h6 with ⟨d, cl, la, lc, e1, e2, rfl, e4, e5, _⟩ | ⟨e1, rfl⟩
    · obtain ⟨q1, q2, q3, q4⟩ := dec_sound e1
      have hs9 : (⟨(encB d).toArray⟩ : ByteArray) = s := data_inj q2
      have hE9 := encR_some q1 (by rw [q2]; exact q3)
      rw [hs9] at hE9
      have hat6 : NodesAt W6 la d.nodes := by
        have hl : d.nodes.length = cl.length := by rw [e2]; simp
        have hh := nodes_own (a := la) (n := d.nodes.length) (k := lc) (B := V8.heap.size) (cl := cl) (by rw [← hl]; exact e4) (fun x hx => (e5 x hx).own)
        rw [e2]
        exact hh
      have hcall := fun W hb => wEncode_any la lc d W (hat6.below hb) q4
      rw [hE9] at hcall
      have H6 := (show Hid _ from And.intro hcall (below_trans H5.out b6))
      clear hcall hE9 hs9 q1 q2 q3 q4 hat6 e1 e2 e4 e5 b6
      go_wp2_with fail
      refine (H6.out.1 _ (below1 _ _)).mono ?_
      rintro e W7 ⟨rfl, b7⟩
      have H7 := (show Hid _ from below_trans H6.out.2 (below_trans (below1 _ _) b7))
      clear b7
      go_wp2_with fail
      go_ret
      exact ⟨rfl, H7.out⟩
    · have H6 := (show Hid _ from below_trans H5.out b6)
      clear e1 b6
      go_wp2_with fail
      go_ret
      exact ⟨rfl, below_trans H6.out (below1 _ _)⟩
  · have hE := encR_none hok
    have hcall := fun W hb => wEncode_any na nc c W (HH.out.1.below hb) HH.out.2
    rw [hE] at hcall
    have HE := (show Hid _ from hcall)
    clear hcall hE hok
    go_wp2_with (go_at_call 10; refine (HE.out _ HW2.out).mono ?_; rintro e W3 ⟨rfl, b3⟩)
    have H5 : Hid (Below w.heap.size w W3) := below_trans HW2.out b3
    clear x1 x2 b3
    refine (wDecode_any _ W3).mono ?_
    rintro e W6 ⟨h6, b6⟩
    rcases h6 with ⟨d, cl, la, lc, e1, e2, rfl, e4, e5, _⟩ | ⟨e1, rfl⟩
    · obtain ⟨q1, q2, q3, q4⟩ := dec_sound e1
      have hs9 : (⟨(encB d).toArray⟩ : ByteArray) = s := data_inj q2
      have hE9 := encR_some q1 (by rw [q2]; exact q3)
      rw [hs9] at hE9
      have hat6 : NodesAt W6 la d.nodes := by
        have hl : d.nodes.length = cl.length := by rw [e2]; simp
        have hh := nodes_own (a := la) (n := d.nodes.length) (k := lc) (B := W3.heap.size) (cl := cl) (by rw [← hl]; exact e4) (fun x hx => (e5 x hx).own)
        rw [e2]
        exact hh
      have hcall := fun W hb => wEncode_any la lc d W (hat6.below hb) q4
      rw [hE9] at hcall
      have H6 := (show Hid _ from And.intro hcall (below_trans H5.out b6))
      clear hcall hE9 hs9 q1 q2 q3 q4 hat6 e1 e2 e4 e5 b6
      go_wp2_with fail
      refine (H6.out.1 _ (below1 _ _)).mono ?_
      rintro e W7 ⟨rfl, b7⟩
      have H7 := (show Hid _ from below_trans H6.out.2 (below_trans (below1 _ _) b7))
      clear b7
      go_wp2_with fail
      go_ret
      exact ⟨rfl, H7.out⟩
    · have H6 := (show Hid _ from below_trans H5.out b6)
      clear e1 b6
      go_wp2_with fail
      go_ret
      exact ⟨rfl, below_trans H6.out (below1 _ _)⟩
end Go.Proofs.Ytmipbiligijcpaa
