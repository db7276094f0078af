/- Of every two nodes (no longer than is looked at): of different paths the paths alone tell the order, of one path the versions; no condition. -/
import Derived.Test.YtijhdjdjnolpcaaRows
import Derived.Test.YtijhdjdjnolpcaaNodR
import Derived.ProofKit
import Derived.OpenShut
import Derived.ShutString
import Derived.ChangeOld
namespace Go.Proofs.Ytijhdjdjnolpcaa.nodePaths
open Go.ChangeShapes Go.WideShapes Go.ChangeAt Go.RowKit
open Go.ChangeMaps (open_string shut_string)
set_option maxRecDepth 100000
set_option linter.unusedVariables false

set_option maxRecDepth 100000 in
set_option maxHeartbeats 3200000 in
theorem walk (V : Value) (n : Nd) (U : Value) (m : Nd) (w : World) (hn : V = .agg #[.string (mkB n.1), .string (mkB n.2)] ∧ fitsN n) (hm : U = .agg #[.string (mkB m.1), .string (mkB m.2)] ∧ fitsN m) :
    Calls Try.prog 7 #[V, U] w fun e w' => e = .returned (.bool true) ∧ Below w.heap.size w w' := by
  obtain ⟨rfl, fn⟩ := hn
  obtain ⟨rfl, fm⟩ := hm
  go_enter Try.func7, Try.ntmps7
  go_upto_region 1 with fail
  obtain ⟨W, hW, hWs, r0, r1, hb⟩ := boxes2 w n m
  rw [hW]
  clear hW
  have e1 : ∀ args w, (callFunc 8 args).run Try.prog w = .ok (.enter 8 args) w := enters_of Try.func8 (by kernel_rfl) rfl
  refine lane_run (by kernel_rfl) [[], [0], [], [2], [0, 1], [2, 3]] (by kernel_rfl) [11, 12, 13, 14] [none, none, none, none, some 0, some 1] [.slot 11 (ndV n), .slot 12 (ndV (oneN n)), .slot 13 (ndV m), .slot 14 (ndV (oneN m)), .cells 0 (oneN n), .cells 1 (oneN m)] [.any, .any, .any, .any, .cells 0 n, .cells 1 m] (by kernel_rfl) w.heap.size W.heap.size rfl hb rfl ?_ ?_ ?_
  · intro j hj
    have hj2 : j = 0 ∨ j = 1 ∨ j = 2 ∨ j = 3 ∨ j = 4 ∨ j = 5 := by have hj3 : j < 6 := hj; omega
    rcases hj2 with rfl | rfl | rfl | rfl | rfl | rfl
    · exact trivial
    · exact trivial
    · exact trivial
    · exact trivial
    · exact r0
    · exact r1
  · intro i hi a wx hG hF hE
    have hz : a.tmps.size = 79 := hG.size
    have hi2 : i = 0 ∨ i = 1 ∨ i = 2 ∨ i = 3 ∨ i = 4 ∨ i = 5 := by have hi3 : i < 6 := hi; omega
    clear hi
    rcases hi2 with rfl | rfl | rfl | rfl | rfl | rfl
    · exact lane_load rfl rfl rfl ((hG.slots 2 (by decide)).trans rfl) (hE 4 (by decide) (Or.inr (by decide))) ⟨⟨_, rfl⟩, hG.below, Step1.same _ _ _, put_self _ (by rw [hz]; decide)⟩
    · refine lane_call rfl rfl rfl (hF 0 (by decide)) e1 (one_any n.1 n.2 wx fn.1 fn.2) ?_
      rintro e w1 ⟨rfl, hb1⟩
      exact ⟨_, rfl, ⟨_, rfl⟩, hG.below.trans (hb1.mono hG.below.size), Step1.of_below hb1 _ _, put_self _ (by rw [hz]; decide)⟩
    · exact lane_load rfl rfl rfl ((hG.slots 3 (by decide)).trans rfl) (hE 5 (by decide) (Or.inr (by decide))) ⟨⟨_, rfl⟩, hG.below, Step1.same _ _ _, put_self _ (by rw [hz]; decide)⟩
    · refine lane_call rfl rfl rfl (hF 2 (by decide)) e1 (one_any m.1 m.2 wx fm.1 fm.2) ?_
      rintro e w1 ⟨rfl, hb1⟩
      exact ⟨_, rfl, ⟨_, rfl⟩, hG.below.trans (hb1.mono hG.below.size), Step1.of_below hb1 _ _, put_self _ (by rw [hz]; decide)⟩
    · exact lane_store rfl rfl rfl ((hG.slots 2 (by decide)).trans rfl) (hF 1 (by decide)) (hE 4 (by decide) (Or.inl rfl)) ⟨⟨_, rfl⟩, (hG.below.setCell (Nat.le_add_right _ 0) _).setCell (Nat.le_add_right _ 0) _, Step1.two (B := w.heap.size) (c := 0) wx (by rw [hWs]; omega) _ _, row2_set (hE 4 (by decide) (Or.inl rfl)) _ _⟩
    · exact lane_store rfl rfl rfl ((hG.slots 3 (by decide)).trans rfl) (hF 3 (by decide)) (hE 5 (by decide) (Or.inl rfl)) ⟨⟨_, rfl⟩, (hG.below.setCell (Nat.le_add_right _ 1) _).setCell (Nat.le_add_right _ 1) _, Step1.two (B := w.heap.size) (c := 1) wx (by rw [hWs]; omega) _ _, row2_set (hE 5 (by decide) (Or.inl rfl)) _ _⟩
  · intro a wx hG hF
    have f4 : wx.heap[w.heap.size]? = some (.cells #[.string (mkB (oneN n).1), .string (mkB (oneN n).2)] 23 (0, 0)) := hF 4 (by decide)
    have f5 : wx.heap[w.heap.size + 1]? = some (.cells #[.string (mkB (oneN m).1), .string (mkB (oneN m).2)] 23 (0, 0)) := hF 5 (by decide)
    have hbx := hG.below
    have hnx := hG.new
    rw [hG.frame]
    simp only [List.foldl_cons, List.foldl_nil, List.setIfInBounds_toArray, List.set_cons_zero, List.set_cons_succ]
    generalize a.tmps.getD 11 undef = u11
    generalize a.tmps.getD 12 undef = u12
    generalize a.tmps.getD 13 undef = u13
    generalize a.tmps.getD 14 undef = u14
    clear hF hG
    have sx := oneN_small n
    have sy := oneN_small m
    obtain ⟨⟨x1, x2⟩, hx⟩ : ∃ x, oneN n = x := ⟨_, rfl⟩
    obtain ⟨⟨y1, y2⟩, hy⟩ : ∃ y, oneN m = y := ⟨_, rfl⟩
    rw [hx] at f4 sx; rw [hy] at f5 sy
    obtain ⟨c0, c1, _, _⟩ := row2 f4
    obtain ⟨d0, d1, _, _⟩ := row2 f5
    simp only at c0 c1 d0 d1
    have B := Lib.hid hbx; have SX := Lib.hid sx; have SY := Lib.hid sy
    clear f4 f5 r0 r1 hb hWs hnx hx hy fn fm hbx sx sy
    have h1 := fun w => ncmp_any x1 x2 y1 y2 w SX.out.1 SX.out.2 SY.out.1 SY.out.2
    obtain ⟨C, hC⟩ : ∃ C, cmpNE (x1, x2) (y1, y2) = C := ⟨_, rfl⟩
    rw [hC] at h1
    by_cases ok : (okN (x1, x2) && okN (y1, y2)) = true
    · rw [Bool.and_eq_true] at ok
      obtain ⟨ox, oy⟩ := ok
      rw [cmpNE_yes ox oy] at hC
      have hne := mk_beq x1 y1
      by_cases he : x1 = y1
      · have ht : ordN (x1, x2) (y1, y2) = cmpT x2 y2 := by unfold ordN; rw [if_pos he]
        obtain ⟨t, ht2⟩ : ∃ t, ordN (x1, x2) (y1, y2) = t := ⟨_, rfl⟩
        rw [ht2] at hC ht
        have h2 := fun w => ncmp_any exX x2 exX y2 w (ex_small _ (by decide)) SX.out.2 (ex_small _ (by decide)) SY.out.2
        have hC2 : cmpNE (exX, x2) (exX, y2) = (t, 0) := by
          rw [cmpNE_yes (okN_of (n := (exX, x2)) exX_ok (okN_parts ox).2) (okN_of (n := (exX, y2)) exX_ok (okN_parts oy).2)]
          unfold ordN; rw [if_pos rfl, ht]
        rw [hC2] at h2
        rw [← hC] at h1
        rw [decide_eq_true he] at hne
        have hne' : (!(mkB x1).toList == (mkB y1).toList) = false := by rw [hne]; rfl
        clear hne he ht ht2 hC hC2 ox oy
        go_wp2_with (first
          | (go_at_call 10; refine (h1 _).mono ?_; rintro e w1 ⟨rfl, hb1⟩; replace B := Lib.hid (below_step B.out hb1); replace c0 := cell_keep c0 hb1; replace c1 := cell_keep c1 hb1; replace d0 := cell_keep d0 hb1; replace d1 := cell_keep d1 hb1; clear hb1 h1)
          | (go_at_call 10; refine (h2 _).mono ?_; rintro e w1 ⟨rfl, hb1⟩; replace B := Lib.hid (below_step B.out hb1); clear hb1 h2) | (go_at_call 15; refine (nawake_any _).mono ?_; rintro e w1 ⟨rfl, hb1⟩; replace B := Lib.hid (below_step B.out hb1); clear hb1))
        go_ret
        exact ⟨rfl, B.out⟩
      · have ht : ordN (x1, x2) (y1, y2) = Lib.compareBytes x1 y1 := by unfold ordN; rw [if_neg he]
        have hC2 : cmpNE (x1, ex10) (y1, ex10) = (Lib.compareBytes x1 y1, 0) := by
          rw [cmpNE_yes (okN_of (n := (x1, ex10)) (okN_parts ox).1 ex10_ok) (okN_of (n := (y1, ex10)) (okN_parts oy).1 ex10_ok)]
          unfold ordN; rw [if_neg he]
        have hcv := cb_vals x1 y1
        have hz : Lib.compareBytes x1 y1 ≠ 0 := fun e => he (cb_zero _ _ e)
        obtain ⟨t, ht2⟩ : ∃ t, Lib.compareBytes x1 y1 = t := ⟨_, rfl⟩
        have h2 := fun w => ncmp_any x1 ex10 y1 ex10 w SX.out.1 (ex_small _ (by decide)) SY.out.1 (ex_small _ (by decide))
        rw [hC2] at h2
        rw [ht] at hC
        rw [← hC] at h1
        rw [ht2] at h1 h2 hcv hz
        rw [decide_eq_false he] at hne
        have hne' : (!(mkB x1).toList == (mkB y1).toList) = true := by rw [hne]; rfl
        have hlt : Op.bytesLess (mkB x1).toList (mkB y1).toList = decide (t < 0) := by rw [Lib.toList_data, Lib.toList_data, mkB_list, mkB_list, less_cb, ht2]
        clear hne he ht ht2 hC hC2 ox oy
        have hcc : (t = -1) ∨ (t = 1) := by omega
        clear hcv hz
        rcases hcc with rfl | rfl
        all_goals
          first | replace hlt : Op.bytesLess (mkB x1).toList (mkB y1).toList = true := hlt | replace hlt : Op.bytesLess (mkB x1).toList (mkB y1).toList = false := hlt
          go_wp2_with (first
            | (go_at_call 10; refine (h1 _).mono ?_; rintro e w1 ⟨rfl, hb1⟩; replace B := Lib.hid (below_step B.out hb1); replace c0 := cell_keep c0 hb1; replace c1 := cell_keep c1 hb1; replace d0 := cell_keep d0 hb1; replace d1 := cell_keep d1 hb1; clear hb1 h1)
            | (go_at_call 10; refine (h2 _).mono ?_; rintro e w1 ⟨rfl, hb1⟩; replace B := Lib.hid (below_step B.out hb1); replace c0 := cell_keep c0 hb1; replace c1 := cell_keep c1 hb1; replace d0 := cell_keep d0 hb1; replace d1 := cell_keep d1 hb1; clear hb1 h2) | (go_at_call 15; refine (nawake_any _).mono ?_; rintro e w1 ⟨rfl, hb1⟩; replace B := Lib.hid (below_step B.out hb1); clear hb1))
          go_ret
          exact ⟨rfl, B.out⟩
    · rw [cmpNE_no (by simpa using ok)] at hC
      rw [← hC] at h1
      clear ok hC
      go_wp2_with (first
        | (go_at_call 10; refine (h1 _).mono ?_; rintro e w1 ⟨rfl, hb1⟩; replace B := Lib.hid (below_step B.out hb1); clear hb1 h1) | (go_at_call 15; refine (nawake_any _).mono ?_; rintro e w1 ⟨rfl, hb1⟩; replace B := Lib.hid (below_step B.out hb1); clear hb1))
      go_ret
      exact ⟨rfl, B.out⟩

theorem own : ownKnob Try.prog.godebug = none := by kernel_rfl
theorem laidOut : laidOutB Try.prog = true := by kernel_rfl

set_option maxRecDepth 100000 in
theorem lifted (os : Os) (started : os.Started) (H : Type) (enc : TypeId × Value → H) :
    ReturnsInHanded {} Try.checked os 7 .any (Rows.nodePathsSpec.pre6 enc Try.prog Try.f7 Rows.nodePathsRow.domain false) (Rows.nodePathsSpec.post enc Try.prog Try.f7 false true false false) := by
  refine returnsInHanded_of_change (C := Try.checked) own started (by kernel_rfl) Try.func7
    (ChangeSpec.witness6 (enc := enc) (C := Try.checked) false ⟨#[], #[.agg #[.string ByteArray.empty, .string ByteArray.empty], .agg #[.string ByteArray.empty, .string ByteArray.empty]], []⟩ 8 (by kernel_rfl) (by kernel_rfl) (by kernel_rfl) (by kernel_rfl)) ?_
  intro W base args ds gs before hval0 hW hcnd _
  have hval : ∀ (j : Nat) t v, Try.f7.params[j]? = some t → args[j]? = some v → Value.okWide Try.prog W .any base t v := hval0
  have hW' := hW
  obtain ⟨p, q, hA0, hV, rfl, hfz, hnd⟩ := hW
  have hA : DataW.TrodAll enc Try.prog W 0 (fun _ => true) true Try.f7.params.toList args.toList ds p := hA0
  rw [Try.params7] at hA hval
  obtain ⟨v0, vs0, d0, ds0, p0, q0, hargs, rfl, rfl, h0, r0⟩ := trodAll_cons hA
  obtain ⟨v1, vs1, d1, ds1, p1, q1, rfl, rfl, rfl, h1, r1⟩ := trodAll_cons r0
  obtain ⟨rfl, rfl, rfl⟩ := trodAll_nil r1
  obtain rfl : args = #[v0, v1] := by cases args; simp_all
  obtain ⟨rfl, rfl⟩ := trodVars_none hV
  have k0 := h0
  have lt0 : ∀ x ∈ p0, x.block < W.heap.size := by obtain ⟨m, hm⟩ := k0; exact DataW.trod_lt m _ _ _ hm
  obtain ⟨z0, w0⟩ := node_open (hval 0 23 v0 rfl rfl) h0
  have k1 := h1
  have lt1 : ∀ x ∈ p1, x.block < W.heap.size := by obtain ⟨m, hm⟩ := k1; exact DataW.trod_lt m _ _ _ hm
  obtain ⟨z1, w1⟩ := node_open (hval 1 23 v1 rfl rfl) h1
  clear hA0 hval0
  refine (walk _ z0 _ z1 W w0 w1).mono fun e W' ⟨he, bel⟩ => ?_
  subst he
  exact ⟨_, rfl, _, _, _, [], _, [], hW', trodAll_mk1 (shut_bool Try.underlying4 _), (trodAll_cons_mk (Below.trod laidOut (by kernel_rfl) (of_decide_eq_true (by kernel_rfl)) k0 bel lt0) (trodAll_cons_mk (Below.trod laidOut (by kernel_rfl) (of_decide_eq_true (by kernel_rfl)) k1 bel lt1) trodAll_mk0)), rfl, bel.frame _, fun h => by cases h⟩

-- the given statement
theorem proved : Rows.NodePathsSaid :=
  OpenClaim.holds_of_wide 7 Try.f7 rfl rfl rfl rfl rfl rfl rfl ⟨rfl, rfl, rfl, rfl, rfl⟩ rfl rfl rfl rfl rfl (by kernel_rfl) Try.func7 (by kernel_rfl)
    (of_decide_eq_true (by kernel_rfl)) (by unfold Func.isWrapper; first | (rw [if_pos (by decide +kernel)]; kernel_rfl) | (rw [if_neg (by decide +kernel)]; exact ⟨rfl, rfl⟩))
    (fun os started H enc _ => lifted os started H enc)
end Go.Proofs.Ytijhdjdjnolpcaa.nodePaths
