/- Of every three nodes (no longer than is looked at): order turned about is the other one; it goes one way; two are the same just if they are one; no condition. -/
import Derived.Test.YtijhdjdjnolpcaaRows
import Derived.Test.YtijhdjdjnolpcaaNodR
import Derived.ProofKit
import Derived.OpenShut
import Derived.ShutString
import Derived.ChangeOld
namespace Go.Proofs.Ytijhdjdjnolpcaa.nodeOrder
open Go.ChangeShapes Go.WideShapes Go.ChangeAt Go.RowKit
open Go.ChangeMaps (open_string shut_string)
set_option maxRecDepth 100000
set_option linter.unusedVariables false

theorem nod_three (p q r : Int) (vp : p = -1 ∨ p = 0 ∨ p = 1) (vq : q = -1 ∨ q = 0 ∨ q = 1) (vr : r = -1 ∨ r = 0 ∨ r = 1) (h1 : p ≤ 0 → q ≤ 0 → r ≤ 0 ∧ (p < 0 ∨ q < 0 → r < 0)) (h2 : 0 ≤ p → 0 ≤ q → 0 ≤ r ∧ (0 < p ∨ 0 < q → 0 < r)) :
    (p = -1 ∧ q = -1 ∧ r = -1) ∨ (p = -1 ∧ q = 0 ∧ r = -1) ∨ (p = -1 ∧ q = 1 ∧ r = -1) ∨ (p = -1 ∧ q = 1 ∧ r = 0) ∨ (p = -1 ∧ q = 1 ∧ r = 1) ∨ (p = 0 ∧ q = -1 ∧ r = -1) ∨ (p = 0 ∧ q = 0 ∧ r = 0) ∨ (p = 0 ∧ q = 1 ∧ r = 1) ∨ (p = 1 ∧ q = -1 ∧ r = -1) ∨ (p = 1 ∧ q = -1 ∧ r = 0) ∨ (p = 1 ∧ q = -1 ∧ r = 1) ∨ (p = 1 ∧ q = 0 ∧ r = 1) ∨ (p = 1 ∧ q = 1 ∧ r = 1) := by
  rcases vp with rfl | rfl | rfl <;> rcases vq with rfl | rfl | rfl <;> rcases vr with rfl | rfl | rfl <;> first | decide | (exfalso; simp at h1 h2; done)
set_option maxRecDepth 100000 in
set_option maxHeartbeats 12800000 in
theorem walk (V : Value) (n : Nd) (U : Value) (m : Nd) (T : Value) (k : Nd) (w : World) (hn : V = .agg #[.string (mkB n.1), .string (mkB n.2)] ∧ fitsN n) (hm : U = .agg #[.string (mkB m.1), .string (mkB m.2)] ∧ fitsN m) (hk : T = .agg #[.string (mkB k.1), .string (mkB k.2)] ∧ fitsN k) :
    Calls Try.prog 4 #[V, U, T] w fun e w' => e = .returned (.bool true) ∧ Below w.heap.size w w' := by
  obtain ⟨rfl, fn⟩ := hn
  obtain ⟨rfl, fm⟩ := hm
  obtain ⟨rfl, fk⟩ := hk
  go_enter Try.func4, Try.ntmps4
  go_upto_region 1 with fail
  obtain ⟨W, hW, hWs, r0, r1, r2, hb⟩ := boxes3 w n m k
  rw [hW]
  clear hW
  have e1 : ∀ args w, (callFunc 8 args).run Try.prog w = .ok (.enter 8 args) w := enters_of Try.func8 (by kernel_rfl) rfl
  refine lane_run (by kernel_rfl) [[], [0], [], [2], [], [4], [0, 1], [2, 3], [4, 5]] (by kernel_rfl) [15, 16, 17, 18, 19, 20] [none, none, none, none, none, none, some 0, some 1, some 2] [.slot 15 (ndV n), .slot 16 (ndV (oneN n)), .slot 17 (ndV m), .slot 18 (ndV (oneN m)), .slot 19 (ndV k), .slot 20 (ndV (oneN k)), .cells 0 (oneN n), .cells 1 (oneN m), .cells 2 (oneN k)] [.any, .any, .any, .any, .any, .any, .cells 0 n, .cells 1 m, .cells 2 k] (by kernel_rfl) w.heap.size W.heap.size rfl hb rfl ?_ ?_ ?_
  · intro j hj
    have hj2 : j = 0 ∨ j = 1 ∨ j = 2 ∨ j = 3 ∨ j = 4 ∨ j = 5 ∨ j = 6 ∨ j = 7 ∨ j = 8 := by have hj3 : j < 9 := hj; omega
    rcases hj2 with rfl | rfl | rfl | rfl | rfl | rfl | rfl | rfl | rfl
    · exact trivial
    · exact trivial
    · exact trivial
    · exact trivial
    · exact trivial
    · exact trivial
    · exact r0
    · exact r1
    · exact r2
  · intro i hi a wx hG hF hE
    have hz : a.tmps.size = 114 := hG.size
    have hi2 : i = 0 ∨ i = 1 ∨ i = 2 ∨ i = 3 ∨ i = 4 ∨ i = 5 ∨ i = 6 ∨ i = 7 ∨ i = 8 := by have hi3 : i < 9 := hi; omega
    clear hi
    rcases hi2 with rfl | rfl | rfl | rfl | rfl | rfl | rfl | rfl | rfl
    · exact lane_load rfl rfl rfl ((hG.slots 3 (by decide)).trans rfl) (hE 6 (by decide) (Or.inr (by decide))) ⟨⟨_, rfl⟩, hG.below, Step1.same _ _ _, put_self _ (by rw [hz]; decide)⟩
    · refine lane_call rfl rfl rfl (hF 0 (by decide)) e1 (one_any n.1 n.2 wx fn.1 fn.2) ?_
      rintro e w1 ⟨rfl, hb1⟩
      exact ⟨_, rfl, ⟨_, rfl⟩, hG.below.trans (hb1.mono hG.below.size), Step1.of_below hb1 _ _, put_self _ (by rw [hz]; decide)⟩
    · exact lane_load rfl rfl rfl ((hG.slots 4 (by decide)).trans rfl) (hE 7 (by decide) (Or.inr (by decide))) ⟨⟨_, rfl⟩, hG.below, Step1.same _ _ _, put_self _ (by rw [hz]; decide)⟩
    · refine lane_call rfl rfl rfl (hF 2 (by decide)) e1 (one_any m.1 m.2 wx fm.1 fm.2) ?_
      rintro e w1 ⟨rfl, hb1⟩
      exact ⟨_, rfl, ⟨_, rfl⟩, hG.below.trans (hb1.mono hG.below.size), Step1.of_below hb1 _ _, put_self _ (by rw [hz]; decide)⟩
    · exact lane_load rfl rfl rfl ((hG.slots 5 (by decide)).trans rfl) (hE 8 (by decide) (Or.inr (by decide))) ⟨⟨_, rfl⟩, hG.below, Step1.same _ _ _, put_self _ (by rw [hz]; decide)⟩
    · refine lane_call rfl rfl rfl (hF 4 (by decide)) e1 (one_any k.1 k.2 wx fk.1 fk.2) ?_
      rintro e w1 ⟨rfl, hb1⟩
      exact ⟨_, rfl, ⟨_, rfl⟩, hG.below.trans (hb1.mono hG.below.size), Step1.of_below hb1 _ _, put_self _ (by rw [hz]; decide)⟩
    · exact lane_store rfl rfl rfl ((hG.slots 3 (by decide)).trans rfl) (hF 1 (by decide)) (hE 6 (by decide) (Or.inl rfl)) ⟨⟨_, rfl⟩, (hG.below.setCell (Nat.le_add_right _ 0) _).setCell (Nat.le_add_right _ 0) _, Step1.two (B := w.heap.size) (c := 0) wx (by rw [hWs]; omega) _ _, row2_set (hE 6 (by decide) (Or.inl rfl)) _ _⟩
    · exact lane_store rfl rfl rfl ((hG.slots 4 (by decide)).trans rfl) (hF 3 (by decide)) (hE 7 (by decide) (Or.inl rfl)) ⟨⟨_, rfl⟩, (hG.below.setCell (Nat.le_add_right _ 1) _).setCell (Nat.le_add_right _ 1) _, Step1.two (B := w.heap.size) (c := 1) wx (by rw [hWs]; omega) _ _, row2_set (hE 7 (by decide) (Or.inl rfl)) _ _⟩
    · exact lane_store rfl rfl rfl ((hG.slots 5 (by decide)).trans rfl) (hF 5 (by decide)) (hE 8 (by decide) (Or.inl rfl)) ⟨⟨_, rfl⟩, (hG.below.setCell (Nat.le_add_right _ 2) _).setCell (Nat.le_add_right _ 2) _, Step1.two (B := w.heap.size) (c := 2) wx (by rw [hWs]; omega) _ _, row2_set (hE 8 (by decide) (Or.inl rfl)) _ _⟩
  · intro a wx hG hF
    have f6 : wx.heap[w.heap.size]? = some (.cells #[.string (mkB (oneN n).1), .string (mkB (oneN n).2)] 23 (0, 0)) := hF 6 (by decide)
    have f7 : wx.heap[w.heap.size + 1]? = some (.cells #[.string (mkB (oneN m).1), .string (mkB (oneN m).2)] 23 (0, 0)) := hF 7 (by decide)
    have f8 : wx.heap[w.heap.size + 2]? = some (.cells #[.string (mkB (oneN k).1), .string (mkB (oneN k).2)] 23 (0, 0)) := hF 8 (by decide)
    have hbx := hG.below
    have hnx := hG.new
    rw [hG.frame]
    simp only [List.foldl_cons, List.foldl_nil, List.setIfInBounds_toArray, List.set_cons_zero, List.set_cons_succ]
    generalize a.tmps.getD 15 undef = u15
    generalize a.tmps.getD 16 undef = u16
    generalize a.tmps.getD 17 undef = u17
    generalize a.tmps.getD 18 undef = u18
    generalize a.tmps.getD 19 undef = u19
    generalize a.tmps.getD 20 undef = u20
    clear hF hG
    have sx := oneN_small n
    have sy := oneN_small m
    have sz := oneN_small k
    obtain ⟨⟨x1, x2⟩, hx⟩ : ∃ x, oneN n = x := ⟨_, rfl⟩
    obtain ⟨⟨y1, y2⟩, hy⟩ : ∃ y, oneN m = y := ⟨_, rfl⟩
    obtain ⟨⟨z1, z2⟩, hz⟩ : ∃ y, oneN k = y := ⟨_, rfl⟩
    rw [hx] at f6 sx; rw [hy] at f7 sy; rw [hz] at f8 sz
    obtain ⟨c0, c1, _, _⟩ := row2 f6
    obtain ⟨d0, d1, _, _⟩ := row2 f7
    obtain ⟨b0, b1, _, _⟩ := row2 f8
    simp only at c0 c1 d0 d1 b0 b1
    have B := Lib.hid hbx; have SX := Lib.hid sx; have SY := Lib.hid sy; have SZ := Lib.hid sz
    clear f6 f7 f8 r0 r1 r2 hb hWs hnx hx hy hz fn fm fk hbx sx sy sz
    have h1 := fun w => ncmp_any x1 x2 y1 y2 w SX.out.1 SX.out.2 SY.out.1 SY.out.2
    have h2 := fun w => ncmp_any y1 y2 x1 x2 w SY.out.1 SY.out.2 SX.out.1 SX.out.2
    have h3 := fun w => ncmp_any y1 y2 z1 z2 w SY.out.1 SY.out.2 SZ.out.1 SZ.out.2
    have h4 := fun w => ncmp_any x1 x2 z1 z2 w SX.out.1 SX.out.2 SZ.out.1 SZ.out.2
    obtain ⟨ox, hox⟩ : ∃ o, okN (x1, x2) = o := ⟨_, rfl⟩
    obtain ⟨oy, hoy⟩ : ∃ o, okN (y1, y2) = o := ⟨_, rfl⟩
    obtain ⟨oz, hoz⟩ : ∃ o, okN (z1, z2) = o := ⟨_, rfl⟩
    by_cases hall : ox = true ∧ oy = true ∧ oz = true
    · obtain ⟨rfl, rfl, rfl⟩ := hall
      obtain ⟨p, hp⟩ : ∃ p, ordN (x1, x2) (y1, y2) = p := ⟨_, rfl⟩
      obtain ⟨q, hq⟩ : ∃ q, ordN (y1, y2) (z1, z2) = q := ⟨_, rfl⟩
      obtain ⟨r, hr⟩ : ∃ r, ordN (x1, x2) (z1, z2) = r := ⟨_, rfl⟩
      have vp := ordN_vals (x1, x2) (y1, y2); have vq := ordN_vals (y1, y2) (z1, z2); have vr := ordN_vals (x1, x2) (z1, z2)
      have t1 := ordN_trans (x1, x2) (y1, y2) (z1, z2)
      have t2 := ordN_trans (z1, z2) (y1, y2) (x1, x2)
      rw [ordN_swap (y1, y2) (z1, z2), ordN_swap (x1, x2) (y1, y2), ordN_swap (x1, x2) (z1, z2)] at t2
      have hz0 := ordN_zero hox hoy
      rw [cmpNE_yes hox hoy, hp] at h1
      rw [cmpNE_yes hoy hox, ordN_swap (x1, x2) (y1, y2), hp] at h2
      rw [cmpNE_yes hoy hoz, hq] at h3
      rw [cmpNE_yes hox hoz, hr] at h4
      rw [hp] at vp t1 t2 hz0; rw [hq] at vq t1 t2; rw [hr] at vr t1 t2
      have ht := nod_three p q r vp vq vr t1 (fun a b => by have := t2 (by omega) (by omega); omega)
      have heq := eq_nd x1 x2 y1 y2
      have hd : decide ((x1, x2) = (y1, y2)) = decide (p = 0) := decide_eq_decide.2 hz0.symm
      rw [hd] at heq
      have hgd := guard_nd
      clear vp vq vr t1 t2 hz0 hd hp hq hr hox hoy hoz
      rcases ht with ht | ht | ht | ht | ht | ht | ht | ht | ht | ht | ht | ht | ht
      all_goals
        obtain ⟨rfl, rfl, rfl⟩ := ht
        first | (replace heq : ∀ w, Sem.run Try.prog (binOp .eql 23 (.agg #[.string (mkB x1), .string (mkB x2)]) (.agg #[.string (mkB y1), .string (mkB y2)])) w = .ok (.bool true) w := heq) | (replace heq : ∀ w, Sem.run Try.prog (binOp .eql 23 (.agg #[.string (mkB x1), .string (mkB x2)]) (.agg #[.string (mkB y1), .string (mkB y2)])) w = .ok (.bool false) w := heq)
        go_wp2_with (first | (go_at_call 10; refine (h1 _).mono ?_; rintro e w1 ⟨rfl, hb1⟩; replace B := Lib.hid (below_step B.out hb1); replace c0 := cell_keep c0 hb1; replace c1 := cell_keep c1 hb1; replace d0 := cell_keep d0 hb1; replace d1 := cell_keep d1 hb1; replace b0 := cell_keep b0 hb1; replace b1 := cell_keep b1 hb1; clear hb1 h1) | (go_at_call 10; refine (h2 _).mono ?_; rintro e w1 ⟨rfl, hb1⟩; replace B := Lib.hid (below_step B.out hb1); replace c0 := cell_keep c0 hb1; replace c1 := cell_keep c1 hb1; replace d0 := cell_keep d0 hb1; replace d1 := cell_keep d1 hb1; replace b0 := cell_keep b0 hb1; replace b1 := cell_keep b1 hb1; clear hb1 h2) | (go_at_call 10; refine (h3 _).mono ?_; rintro e w1 ⟨rfl, hb1⟩; replace B := Lib.hid (below_step B.out hb1); replace c0 := cell_keep c0 hb1; replace c1 := cell_keep c1 hb1; replace d0 := cell_keep d0 hb1; replace d1 := cell_keep d1 hb1; replace b0 := cell_keep b0 hb1; replace b1 := cell_keep b1 hb1; clear hb1 h3) | (go_at_call 10; refine (h4 _).mono ?_; rintro e w1 ⟨rfl, hb1⟩; replace B := Lib.hid (below_step B.out hb1); replace c0 := cell_keep c0 hb1; replace c1 := cell_keep c1 hb1; replace d0 := cell_keep d0 hb1; replace d1 := cell_keep d1 hb1; replace b0 := cell_keep b0 hb1; replace b1 := cell_keep b1 hb1; clear hb1 h4) | (go_at_call 15; refine (nawake_any _).mono ?_; rintro e w1 ⟨rfl, hb1⟩; replace B := Lib.hid (below_step B.out hb1); clear hb1))
        go_ret
        exact ⟨rfl, B.out⟩
    · have m1 := fun w => nmay_any x1 x2 w SX.out.1 SX.out.2
      have m2 := fun w => nmay_any y1 y2 w SY.out.1 SY.out.2
      have m3 := fun w => nmay_any z1 z2 w SZ.out.1 SZ.out.2
      rw [hox] at m1; rw [hoy] at m2; rw [hoz] at m3
      cases ox
      · cases oy
        · cases oz
          · skip
            have hph1 : cmpNE (x1, x2) (y1, y2) = (0, 1) := cmpNE_no (by rw [hox, hoy]; rfl)
            rw [hph1] at h1
            have hph2 : cmpNE (y1, y2) (x1, x2) = (0, 1) := cmpNE_no (by rw [hoy, hox]; rfl)
            rw [hph2] at h2
            have hph3 : cmpNE (y1, y2) (z1, z2) = (0, 1) := cmpNE_no (by rw [hoy, hoz]; rfl)
            rw [hph3] at h3
            have hph4 : cmpNE (x1, x2) (z1, z2) = (0, 1) := cmpNE_no (by rw [hox, hoz]; rfl)
            rw [hph4] at h4
            clear hph1 hph2 hph3 hph4 hox hoy hoz hall
            go_wp2_with (first | (go_at_call 10; refine (h1 _).mono ?_; rintro e w1 ⟨rfl, hb1⟩; replace B := Lib.hid (below_step B.out hb1); replace c0 := cell_keep c0 hb1; replace c1 := cell_keep c1 hb1; replace d0 := cell_keep d0 hb1; replace d1 := cell_keep d1 hb1; replace b0 := cell_keep b0 hb1; replace b1 := cell_keep b1 hb1; clear hb1 h1) | (go_at_call 10; refine (h2 _).mono ?_; rintro e w1 ⟨rfl, hb1⟩; replace B := Lib.hid (below_step B.out hb1); replace c0 := cell_keep c0 hb1; replace c1 := cell_keep c1 hb1; replace d0 := cell_keep d0 hb1; replace d1 := cell_keep d1 hb1; replace b0 := cell_keep b0 hb1; replace b1 := cell_keep b1 hb1; clear hb1 h2) | (go_at_call 10; refine (h3 _).mono ?_; rintro e w1 ⟨rfl, hb1⟩; replace B := Lib.hid (below_step B.out hb1); replace c0 := cell_keep c0 hb1; replace c1 := cell_keep c1 hb1; replace d0 := cell_keep d0 hb1; replace d1 := cell_keep d1 hb1; replace b0 := cell_keep b0 hb1; replace b1 := cell_keep b1 hb1; clear hb1 h3) | (go_at_call 10; refine (h4 _).mono ?_; rintro e w1 ⟨rfl, hb1⟩; replace B := Lib.hid (below_step B.out hb1); replace c0 := cell_keep c0 hb1; replace c1 := cell_keep c1 hb1; replace d0 := cell_keep d0 hb1; replace d1 := cell_keep d1 hb1; replace b0 := cell_keep b0 hb1; replace b1 := cell_keep b1 hb1; clear hb1 h4) | (go_at_call 11; refine (m1 _).mono ?_; rintro e w1 ⟨rfl, hb1⟩; replace B := Lib.hid (below_step B.out hb1); replace c0 := cell_keep c0 hb1; replace c1 := cell_keep c1 hb1; replace d0 := cell_keep d0 hb1; replace d1 := cell_keep d1 hb1; replace b0 := cell_keep b0 hb1; replace b1 := cell_keep b1 hb1; clear hb1 m1) | (go_at_call 11; refine (m2 _).mono ?_; rintro e w1 ⟨rfl, hb1⟩; replace B := Lib.hid (below_step B.out hb1); replace c0 := cell_keep c0 hb1; replace c1 := cell_keep c1 hb1; replace d0 := cell_keep d0 hb1; replace d1 := cell_keep d1 hb1; replace b0 := cell_keep b0 hb1; replace b1 := cell_keep b1 hb1; clear hb1 m2) | (go_at_call 11; refine (m3 _).mono ?_; rintro e w1 ⟨rfl, hb1⟩; replace B := Lib.hid (below_step B.out hb1); replace c0 := cell_keep c0 hb1; replace c1 := cell_keep c1 hb1; replace d0 := cell_keep d0 hb1; replace d1 := cell_keep d1 hb1; replace b0 := cell_keep b0 hb1; replace b1 := cell_keep b1 hb1; clear hb1 m3) | (go_at_call 15; refine (nawake_any _).mono ?_; rintro e w1 ⟨rfl, hb1⟩; replace B := Lib.hid (below_step B.out hb1); clear hb1))
            go_ret
            exact ⟨rfl, B.out⟩
          · skip
            have hph1 : cmpNE (x1, x2) (y1, y2) = (0, 1) := cmpNE_no (by rw [hox, hoy]; rfl)
            rw [hph1] at h1
            have hph2 : cmpNE (y1, y2) (x1, x2) = (0, 1) := cmpNE_no (by rw [hoy, hox]; rfl)
            rw [hph2] at h2
            have hph3 : cmpNE (y1, y2) (z1, z2) = (0, 1) := cmpNE_no (by rw [hoy, hoz]; rfl)
            rw [hph3] at h3
            have hph4 : cmpNE (x1, x2) (z1, z2) = (0, 1) := cmpNE_no (by rw [hox, hoz]; rfl)
            rw [hph4] at h4
            clear hph1 hph2 hph3 hph4 hox hoy hoz hall
            go_wp2_with (first | (go_at_call 10; refine (h1 _).mono ?_; rintro e w1 ⟨rfl, hb1⟩; replace B := Lib.hid (below_step B.out hb1); replace c0 := cell_keep c0 hb1; replace c1 := cell_keep c1 hb1; replace d0 := cell_keep d0 hb1; replace d1 := cell_keep d1 hb1; replace b0 := cell_keep b0 hb1; replace b1 := cell_keep b1 hb1; clear hb1 h1) | (go_at_call 10; refine (h2 _).mono ?_; rintro e w1 ⟨rfl, hb1⟩; replace B := Lib.hid (below_step B.out hb1); replace c0 := cell_keep c0 hb1; replace c1 := cell_keep c1 hb1; replace d0 := cell_keep d0 hb1; replace d1 := cell_keep d1 hb1; replace b0 := cell_keep b0 hb1; replace b1 := cell_keep b1 hb1; clear hb1 h2) | (go_at_call 10; refine (h3 _).mono ?_; rintro e w1 ⟨rfl, hb1⟩; replace B := Lib.hid (below_step B.out hb1); replace c0 := cell_keep c0 hb1; replace c1 := cell_keep c1 hb1; replace d0 := cell_keep d0 hb1; replace d1 := cell_keep d1 hb1; replace b0 := cell_keep b0 hb1; replace b1 := cell_keep b1 hb1; clear hb1 h3) | (go_at_call 10; refine (h4 _).mono ?_; rintro e w1 ⟨rfl, hb1⟩; replace B := Lib.hid (below_step B.out hb1); replace c0 := cell_keep c0 hb1; replace c1 := cell_keep c1 hb1; replace d0 := cell_keep d0 hb1; replace d1 := cell_keep d1 hb1; replace b0 := cell_keep b0 hb1; replace b1 := cell_keep b1 hb1; clear hb1 h4) | (go_at_call 11; refine (m1 _).mono ?_; rintro e w1 ⟨rfl, hb1⟩; replace B := Lib.hid (below_step B.out hb1); replace c0 := cell_keep c0 hb1; replace c1 := cell_keep c1 hb1; replace d0 := cell_keep d0 hb1; replace d1 := cell_keep d1 hb1; replace b0 := cell_keep b0 hb1; replace b1 := cell_keep b1 hb1; clear hb1 m1) | (go_at_call 11; refine (m2 _).mono ?_; rintro e w1 ⟨rfl, hb1⟩; replace B := Lib.hid (below_step B.out hb1); replace c0 := cell_keep c0 hb1; replace c1 := cell_keep c1 hb1; replace d0 := cell_keep d0 hb1; replace d1 := cell_keep d1 hb1; replace b0 := cell_keep b0 hb1; replace b1 := cell_keep b1 hb1; clear hb1 m2) | (go_at_call 11; refine (m3 _).mono ?_; rintro e w1 ⟨rfl, hb1⟩; replace B := Lib.hid (below_step B.out hb1); replace c0 := cell_keep c0 hb1; replace c1 := cell_keep c1 hb1; replace d0 := cell_keep d0 hb1; replace d1 := cell_keep d1 hb1; replace b0 := cell_keep b0 hb1; replace b1 := cell_keep b1 hb1; clear hb1 m3) | (go_at_call 15; refine (nawake_any _).mono ?_; rintro e w1 ⟨rfl, hb1⟩; replace B := Lib.hid (below_step B.out hb1); clear hb1))
            go_ret
            exact ⟨rfl, B.out⟩
        · cases oz
          · skip
            have hph1 : cmpNE (x1, x2) (y1, y2) = (0, 1) := cmpNE_no (by rw [hox, hoy]; rfl)
            rw [hph1] at h1
            have hph2 : cmpNE (y1, y2) (x1, x2) = (0, 1) := cmpNE_no (by rw [hoy, hox]; rfl)
            rw [hph2] at h2
            have hph3 : cmpNE (y1, y2) (z1, z2) = (0, 1) := cmpNE_no (by rw [hoy, hoz]; rfl)
            rw [hph3] at h3
            have hph4 : cmpNE (x1, x2) (z1, z2) = (0, 1) := cmpNE_no (by rw [hox, hoz]; rfl)
            rw [hph4] at h4
            clear hph1 hph2 hph3 hph4 hox hoy hoz hall
            go_wp2_with (first | (go_at_call 10; refine (h1 _).mono ?_; rintro e w1 ⟨rfl, hb1⟩; replace B := Lib.hid (below_step B.out hb1); replace c0 := cell_keep c0 hb1; replace c1 := cell_keep c1 hb1; replace d0 := cell_keep d0 hb1; replace d1 := cell_keep d1 hb1; replace b0 := cell_keep b0 hb1; replace b1 := cell_keep b1 hb1; clear hb1 h1) | (go_at_call 10; refine (h2 _).mono ?_; rintro e w1 ⟨rfl, hb1⟩; replace B := Lib.hid (below_step B.out hb1); replace c0 := cell_keep c0 hb1; replace c1 := cell_keep c1 hb1; replace d0 := cell_keep d0 hb1; replace d1 := cell_keep d1 hb1; replace b0 := cell_keep b0 hb1; replace b1 := cell_keep b1 hb1; clear hb1 h2) | (go_at_call 10; refine (h3 _).mono ?_; rintro e w1 ⟨rfl, hb1⟩; replace B := Lib.hid (below_step B.out hb1); replace c0 := cell_keep c0 hb1; replace c1 := cell_keep c1 hb1; replace d0 := cell_keep d0 hb1; replace d1 := cell_keep d1 hb1; replace b0 := cell_keep b0 hb1; replace b1 := cell_keep b1 hb1; clear hb1 h3) | (go_at_call 10; refine (h4 _).mono ?_; rintro e w1 ⟨rfl, hb1⟩; replace B := Lib.hid (below_step B.out hb1); replace c0 := cell_keep c0 hb1; replace c1 := cell_keep c1 hb1; replace d0 := cell_keep d0 hb1; replace d1 := cell_keep d1 hb1; replace b0 := cell_keep b0 hb1; replace b1 := cell_keep b1 hb1; clear hb1 h4) | (go_at_call 11; refine (m1 _).mono ?_; rintro e w1 ⟨rfl, hb1⟩; replace B := Lib.hid (below_step B.out hb1); replace c0 := cell_keep c0 hb1; replace c1 := cell_keep c1 hb1; replace d0 := cell_keep d0 hb1; replace d1 := cell_keep d1 hb1; replace b0 := cell_keep b0 hb1; replace b1 := cell_keep b1 hb1; clear hb1 m1) | (go_at_call 11; refine (m2 _).mono ?_; rintro e w1 ⟨rfl, hb1⟩; replace B := Lib.hid (below_step B.out hb1); replace c0 := cell_keep c0 hb1; replace c1 := cell_keep c1 hb1; replace d0 := cell_keep d0 hb1; replace d1 := cell_keep d1 hb1; replace b0 := cell_keep b0 hb1; replace b1 := cell_keep b1 hb1; clear hb1 m2) | (go_at_call 11; refine (m3 _).mono ?_; rintro e w1 ⟨rfl, hb1⟩; replace B := Lib.hid (below_step B.out hb1); replace c0 := cell_keep c0 hb1; replace c1 := cell_keep c1 hb1; replace d0 := cell_keep d0 hb1; replace d1 := cell_keep d1 hb1; replace b0 := cell_keep b0 hb1; replace b1 := cell_keep b1 hb1; clear hb1 m3) | (go_at_call 15; refine (nawake_any _).mono ?_; rintro e w1 ⟨rfl, hb1⟩; replace B := Lib.hid (below_step B.out hb1); clear hb1))
            go_ret
            exact ⟨rfl, B.out⟩
          · skip
            have hph1 : cmpNE (x1, x2) (y1, y2) = (0, 1) := cmpNE_no (by rw [hox, hoy]; rfl)
            rw [hph1] at h1
            have hph2 : cmpNE (y1, y2) (x1, x2) = (0, 1) := cmpNE_no (by rw [hoy, hox]; rfl)
            rw [hph2] at h2
            obtain ⟨ph3, hph3⟩ : ∃ p : Int, cmpNE (y1, y2) (z1, z2) = (p, 0) := ⟨_, cmpNE_yes hoy hoz⟩
            rw [hph3] at h3
            have hph4 : cmpNE (x1, x2) (z1, z2) = (0, 1) := cmpNE_no (by rw [hox, hoz]; rfl)
            rw [hph4] at h4
            clear hph1 hph2 hph3 hph4 hox hoy hoz hall
            go_wp2_with (first | (go_at_call 10; refine (h1 _).mono ?_; rintro e w1 ⟨rfl, hb1⟩; replace B := Lib.hid (below_step B.out hb1); replace c0 := cell_keep c0 hb1; replace c1 := cell_keep c1 hb1; replace d0 := cell_keep d0 hb1; replace d1 := cell_keep d1 hb1; replace b0 := cell_keep b0 hb1; replace b1 := cell_keep b1 hb1; clear hb1 h1) | (go_at_call 10; refine (h2 _).mono ?_; rintro e w1 ⟨rfl, hb1⟩; replace B := Lib.hid (below_step B.out hb1); replace c0 := cell_keep c0 hb1; replace c1 := cell_keep c1 hb1; replace d0 := cell_keep d0 hb1; replace d1 := cell_keep d1 hb1; replace b0 := cell_keep b0 hb1; replace b1 := cell_keep b1 hb1; clear hb1 h2) | (go_at_call 10; refine (h3 _).mono ?_; rintro e w1 ⟨rfl, hb1⟩; replace B := Lib.hid (below_step B.out hb1); replace c0 := cell_keep c0 hb1; replace c1 := cell_keep c1 hb1; replace d0 := cell_keep d0 hb1; replace d1 := cell_keep d1 hb1; replace b0 := cell_keep b0 hb1; replace b1 := cell_keep b1 hb1; clear hb1 h3) | (go_at_call 10; refine (h4 _).mono ?_; rintro e w1 ⟨rfl, hb1⟩; replace B := Lib.hid (below_step B.out hb1); replace c0 := cell_keep c0 hb1; replace c1 := cell_keep c1 hb1; replace d0 := cell_keep d0 hb1; replace d1 := cell_keep d1 hb1; replace b0 := cell_keep b0 hb1; replace b1 := cell_keep b1 hb1; clear hb1 h4) | (go_at_call 11; refine (m1 _).mono ?_; rintro e w1 ⟨rfl, hb1⟩; replace B := Lib.hid (below_step B.out hb1); replace c0 := cell_keep c0 hb1; replace c1 := cell_keep c1 hb1; replace d0 := cell_keep d0 hb1; replace d1 := cell_keep d1 hb1; replace b0 := cell_keep b0 hb1; replace b1 := cell_keep b1 hb1; clear hb1 m1) | (go_at_call 11; refine (m2 _).mono ?_; rintro e w1 ⟨rfl, hb1⟩; replace B := Lib.hid (below_step B.out hb1); replace c0 := cell_keep c0 hb1; replace c1 := cell_keep c1 hb1; replace d0 := cell_keep d0 hb1; replace d1 := cell_keep d1 hb1; replace b0 := cell_keep b0 hb1; replace b1 := cell_keep b1 hb1; clear hb1 m2) | (go_at_call 11; refine (m3 _).mono ?_; rintro e w1 ⟨rfl, hb1⟩; replace B := Lib.hid (below_step B.out hb1); replace c0 := cell_keep c0 hb1; replace c1 := cell_keep c1 hb1; replace d0 := cell_keep d0 hb1; replace d1 := cell_keep d1 hb1; replace b0 := cell_keep b0 hb1; replace b1 := cell_keep b1 hb1; clear hb1 m3) | (go_at_call 15; refine (nawake_any _).mono ?_; rintro e w1 ⟨rfl, hb1⟩; replace B := Lib.hid (below_step B.out hb1); clear hb1))
            go_ret
            exact ⟨rfl, B.out⟩
      · cases oy
        · cases oz
          · skip
            have hph1 : cmpNE (x1, x2) (y1, y2) = (0, 1) := cmpNE_no (by rw [hox, hoy]; rfl)
            rw [hph1] at h1
            have hph2 : cmpNE (y1, y2) (x1, x2) = (0, 1) := cmpNE_no (by rw [hoy, hox]; rfl)
            rw [hph2] at h2
            have hph3 : cmpNE (y1, y2) (z1, z2) = (0, 1) := cmpNE_no (by rw [hoy, hoz]; rfl)
            rw [hph3] at h3
            have hph4 : cmpNE (x1, x2) (z1, z2) = (0, 1) := cmpNE_no (by rw [hox, hoz]; rfl)
            rw [hph4] at h4
            clear hph1 hph2 hph3 hph4 hox hoy hoz hall
            go_wp2_with (first | (go_at_call 10; refine (h1 _).mono ?_; rintro e w1 ⟨rfl, hb1⟩; replace B := Lib.hid (below_step B.out hb1); replace c0 := cell_keep c0 hb1; replace c1 := cell_keep c1 hb1; replace d0 := cell_keep d0 hb1; replace d1 := cell_keep d1 hb1; replace b0 := cell_keep b0 hb1; replace b1 := cell_keep b1 hb1; clear hb1 h1) | (go_at_call 10; refine (h2 _).mono ?_; rintro e w1 ⟨rfl, hb1⟩; replace B := Lib.hid (below_step B.out hb1); replace c0 := cell_keep c0 hb1; replace c1 := cell_keep c1 hb1; replace d0 := cell_keep d0 hb1; replace d1 := cell_keep d1 hb1; replace b0 := cell_keep b0 hb1; replace b1 := cell_keep b1 hb1; clear hb1 h2) | (go_at_call 10; refine (h3 _).mono ?_; rintro e w1 ⟨rfl, hb1⟩; replace B := Lib.hid (below_step B.out hb1); replace c0 := cell_keep c0 hb1; replace c1 := cell_keep c1 hb1; replace d0 := cell_keep d0 hb1; replace d1 := cell_keep d1 hb1; replace b0 := cell_keep b0 hb1; replace b1 := cell_keep b1 hb1; clear hb1 h3) | (go_at_call 10; refine (h4 _).mono ?_; rintro e w1 ⟨rfl, hb1⟩; replace B := Lib.hid (below_step B.out hb1); replace c0 := cell_keep c0 hb1; replace c1 := cell_keep c1 hb1; replace d0 := cell_keep d0 hb1; replace d1 := cell_keep d1 hb1; replace b0 := cell_keep b0 hb1; replace b1 := cell_keep b1 hb1; clear hb1 h4) | (go_at_call 11; refine (m1 _).mono ?_; rintro e w1 ⟨rfl, hb1⟩; replace B := Lib.hid (below_step B.out hb1); replace c0 := cell_keep c0 hb1; replace c1 := cell_keep c1 hb1; replace d0 := cell_keep d0 hb1; replace d1 := cell_keep d1 hb1; replace b0 := cell_keep b0 hb1; replace b1 := cell_keep b1 hb1; clear hb1 m1) | (go_at_call 11; refine (m2 _).mono ?_; rintro e w1 ⟨rfl, hb1⟩; replace B := Lib.hid (below_step B.out hb1); replace c0 := cell_keep c0 hb1; replace c1 := cell_keep c1 hb1; replace d0 := cell_keep d0 hb1; replace d1 := cell_keep d1 hb1; replace b0 := cell_keep b0 hb1; replace b1 := cell_keep b1 hb1; clear hb1 m2) | (go_at_call 11; refine (m3 _).mono ?_; rintro e w1 ⟨rfl, hb1⟩; replace B := Lib.hid (below_step B.out hb1); replace c0 := cell_keep c0 hb1; replace c1 := cell_keep c1 hb1; replace d0 := cell_keep d0 hb1; replace d1 := cell_keep d1 hb1; replace b0 := cell_keep b0 hb1; replace b1 := cell_keep b1 hb1; clear hb1 m3) | (go_at_call 15; refine (nawake_any _).mono ?_; rintro e w1 ⟨rfl, hb1⟩; replace B := Lib.hid (below_step B.out hb1); clear hb1))
            go_ret
            exact ⟨rfl, B.out⟩
          · skip
            have hph1 : cmpNE (x1, x2) (y1, y2) = (0, 1) := cmpNE_no (by rw [hox, hoy]; rfl)
            rw [hph1] at h1
            have hph2 : cmpNE (y1, y2) (x1, x2) = (0, 1) := cmpNE_no (by rw [hoy, hox]; rfl)
            rw [hph2] at h2
            have hph3 : cmpNE (y1, y2) (z1, z2) = (0, 1) := cmpNE_no (by rw [hoy, hoz]; rfl)
            rw [hph3] at h3
            obtain ⟨ph4, hph4⟩ : ∃ p : Int, cmpNE (x1, x2) (z1, z2) = (p, 0) := ⟨_, cmpNE_yes hox hoz⟩
            rw [hph4] at h4
            clear hph1 hph2 hph3 hph4 hox hoy hoz hall
            go_wp2_with (first | (go_at_call 10; refine (h1 _).mono ?_; rintro e w1 ⟨rfl, hb1⟩; replace B := Lib.hid (below_step B.out hb1); replace c0 := cell_keep c0 hb1; replace c1 := cell_keep c1 hb1; replace d0 := cell_keep d0 hb1; replace d1 := cell_keep d1 hb1; replace b0 := cell_keep b0 hb1; replace b1 := cell_keep b1 hb1; clear hb1 h1) | (go_at_call 10; refine (h2 _).mono ?_; rintro e w1 ⟨rfl, hb1⟩; replace B := Lib.hid (below_step B.out hb1); replace c0 := cell_keep c0 hb1; replace c1 := cell_keep c1 hb1; replace d0 := cell_keep d0 hb1; replace d1 := cell_keep d1 hb1; replace b0 := cell_keep b0 hb1; replace b1 := cell_keep b1 hb1; clear hb1 h2) | (go_at_call 10; refine (h3 _).mono ?_; rintro e w1 ⟨rfl, hb1⟩; replace B := Lib.hid (below_step B.out hb1); replace c0 := cell_keep c0 hb1; replace c1 := cell_keep c1 hb1; replace d0 := cell_keep d0 hb1; replace d1 := cell_keep d1 hb1; replace b0 := cell_keep b0 hb1; replace b1 := cell_keep b1 hb1; clear hb1 h3) | (go_at_call 10; refine (h4 _).mono ?_; rintro e w1 ⟨rfl, hb1⟩; replace B := Lib.hid (below_step B.out hb1); replace c0 := cell_keep c0 hb1; replace c1 := cell_keep c1 hb1; replace d0 := cell_keep d0 hb1; replace d1 := cell_keep d1 hb1; replace b0 := cell_keep b0 hb1; replace b1 := cell_keep b1 hb1; clear hb1 h4) | (go_at_call 11; refine (m1 _).mono ?_; rintro e w1 ⟨rfl, hb1⟩; replace B := Lib.hid (below_step B.out hb1); replace c0 := cell_keep c0 hb1; replace c1 := cell_keep c1 hb1; replace d0 := cell_keep d0 hb1; replace d1 := cell_keep d1 hb1; replace b0 := cell_keep b0 hb1; replace b1 := cell_keep b1 hb1; clear hb1 m1) | (go_at_call 11; refine (m2 _).mono ?_; rintro e w1 ⟨rfl, hb1⟩; replace B := Lib.hid (below_step B.out hb1); replace c0 := cell_keep c0 hb1; replace c1 := cell_keep c1 hb1; replace d0 := cell_keep d0 hb1; replace d1 := cell_keep d1 hb1; replace b0 := cell_keep b0 hb1; replace b1 := cell_keep b1 hb1; clear hb1 m2) | (go_at_call 11; refine (m3 _).mono ?_; rintro e w1 ⟨rfl, hb1⟩; replace B := Lib.hid (below_step B.out hb1); replace c0 := cell_keep c0 hb1; replace c1 := cell_keep c1 hb1; replace d0 := cell_keep d0 hb1; replace d1 := cell_keep d1 hb1; replace b0 := cell_keep b0 hb1; replace b1 := cell_keep b1 hb1; clear hb1 m3) | (go_at_call 15; refine (nawake_any _).mono ?_; rintro e w1 ⟨rfl, hb1⟩; replace B := Lib.hid (below_step B.out hb1); clear hb1))
            go_ret
            exact ⟨rfl, B.out⟩
        · cases oz
          · skip
            obtain ⟨ph1, hph1⟩ : ∃ p : Int, cmpNE (x1, x2) (y1, y2) = (p, 0) := ⟨_, cmpNE_yes hox hoy⟩
            rw [hph1] at h1
            obtain ⟨ph2, hph2⟩ : ∃ p : Int, cmpNE (y1, y2) (x1, x2) = (p, 0) := ⟨_, cmpNE_yes hoy hox⟩
            rw [hph2] at h2
            have hph3 : cmpNE (y1, y2) (z1, z2) = (0, 1) := cmpNE_no (by rw [hoy, hoz]; rfl)
            rw [hph3] at h3
            have hph4 : cmpNE (x1, x2) (z1, z2) = (0, 1) := cmpNE_no (by rw [hox, hoz]; rfl)
            rw [hph4] at h4
            clear hph1 hph2 hph3 hph4 hox hoy hoz hall
            go_wp2_with (first | (go_at_call 10; refine (h1 _).mono ?_; rintro e w1 ⟨rfl, hb1⟩; replace B := Lib.hid (below_step B.out hb1); replace c0 := cell_keep c0 hb1; replace c1 := cell_keep c1 hb1; replace d0 := cell_keep d0 hb1; replace d1 := cell_keep d1 hb1; replace b0 := cell_keep b0 hb1; replace b1 := cell_keep b1 hb1; clear hb1 h1) | (go_at_call 10; refine (h2 _).mono ?_; rintro e w1 ⟨rfl, hb1⟩; replace B := Lib.hid (below_step B.out hb1); replace c0 := cell_keep c0 hb1; replace c1 := cell_keep c1 hb1; replace d0 := cell_keep d0 hb1; replace d1 := cell_keep d1 hb1; replace b0 := cell_keep b0 hb1; replace b1 := cell_keep b1 hb1; clear hb1 h2) | (go_at_call 10; refine (h3 _).mono ?_; rintro e w1 ⟨rfl, hb1⟩; replace B := Lib.hid (below_step B.out hb1); replace c0 := cell_keep c0 hb1; replace c1 := cell_keep c1 hb1; replace d0 := cell_keep d0 hb1; replace d1 := cell_keep d1 hb1; replace b0 := cell_keep b0 hb1; replace b1 := cell_keep b1 hb1; clear hb1 h3) | (go_at_call 10; refine (h4 _).mono ?_; rintro e w1 ⟨rfl, hb1⟩; replace B := Lib.hid (below_step B.out hb1); replace c0 := cell_keep c0 hb1; replace c1 := cell_keep c1 hb1; replace d0 := cell_keep d0 hb1; replace d1 := cell_keep d1 hb1; replace b0 := cell_keep b0 hb1; replace b1 := cell_keep b1 hb1; clear hb1 h4) | (go_at_call 11; refine (m1 _).mono ?_; rintro e w1 ⟨rfl, hb1⟩; replace B := Lib.hid (below_step B.out hb1); replace c0 := cell_keep c0 hb1; replace c1 := cell_keep c1 hb1; replace d0 := cell_keep d0 hb1; replace d1 := cell_keep d1 hb1; replace b0 := cell_keep b0 hb1; replace b1 := cell_keep b1 hb1; clear hb1 m1) | (go_at_call 11; refine (m2 _).mono ?_; rintro e w1 ⟨rfl, hb1⟩; replace B := Lib.hid (below_step B.out hb1); replace c0 := cell_keep c0 hb1; replace c1 := cell_keep c1 hb1; replace d0 := cell_keep d0 hb1; replace d1 := cell_keep d1 hb1; replace b0 := cell_keep b0 hb1; replace b1 := cell_keep b1 hb1; clear hb1 m2) | (go_at_call 11; refine (m3 _).mono ?_; rintro e w1 ⟨rfl, hb1⟩; replace B := Lib.hid (below_step B.out hb1); replace c0 := cell_keep c0 hb1; replace c1 := cell_keep c1 hb1; replace d0 := cell_keep d0 hb1; replace d1 := cell_keep d1 hb1; replace b0 := cell_keep b0 hb1; replace b1 := cell_keep b1 hb1; clear hb1 m3) | (go_at_call 15; refine (nawake_any _).mono ?_; rintro e w1 ⟨rfl, hb1⟩; replace B := Lib.hid (below_step B.out hb1); clear hb1))
            go_ret
            exact ⟨rfl, B.out⟩
          · exact absurd ⟨rfl, rfl, rfl⟩ hall

theorem own : ownKnob Try.prog.godebug = none := by kernel_rfl
theorem laidOut : laidOutB Try.prog = true := by kernel_rfl

set_option maxRecDepth 100000 in
theorem lifted (os : Os) (started : os.Started) (H : Type) (enc : TypeId × Value → H) :
    ReturnsInHanded {} Try.checked os 4 .any (Rows.nodeOrderSpec.pre6 enc Try.prog Try.f4 Rows.nodeOrderRow.domain false) (Rows.nodeOrderSpec.post enc Try.prog Try.f4 false true false false) := by
  refine returnsInHanded_of_change (C := Try.checked) own started (by kernel_rfl) Try.func4
    (ChangeSpec.witness6 (enc := enc) (C := Try.checked) false ⟨#[], #[.agg #[.string ByteArray.empty, .string ByteArray.empty], .agg #[.string ByteArray.empty, .string ByteArray.empty], .agg #[.string ByteArray.empty, .string ByteArray.empty]], []⟩ 8 (by kernel_rfl) (by kernel_rfl) (by kernel_rfl) (by kernel_rfl)) ?_
  intro W base args ds gs before hval0 hW hcnd _
  have hval : ∀ (j : Nat) t v, Try.f4.params[j]? = some t → args[j]? = some v → Value.okWide Try.prog W .any base t v := hval0
  have hW' := hW
  obtain ⟨p, q, hA0, hV, rfl, hfz, hnd⟩ := hW
  have hA : DataW.TrodAll enc Try.prog W 0 (fun _ => true) true Try.f4.params.toList args.toList ds p := hA0
  rw [Try.params4] at hA hval
  obtain ⟨v0, vs0, d0, ds0, p0, q0, hargs, rfl, rfl, h0, r0⟩ := trodAll_cons hA
  obtain ⟨v1, vs1, d1, ds1, p1, q1, rfl, rfl, rfl, h1, r1⟩ := trodAll_cons r0
  obtain ⟨v2, vs2, d2, ds2, p2, q2, rfl, rfl, rfl, h2, r2⟩ := trodAll_cons r1
  obtain ⟨rfl, rfl, rfl⟩ := trodAll_nil r2
  obtain rfl : args = #[v0, v1, v2] := by cases args; simp_all
  obtain ⟨rfl, rfl⟩ := trodVars_none hV
  have k0 := h0
  have lt0 : ∀ x ∈ p0, x.block < W.heap.size := by obtain ⟨m, hm⟩ := k0; exact DataW.trod_lt m _ _ _ hm
  obtain ⟨z0, w0⟩ := node_open (hval 0 23 v0 rfl rfl) h0
  have k1 := h1
  have lt1 : ∀ x ∈ p1, x.block < W.heap.size := by obtain ⟨m, hm⟩ := k1; exact DataW.trod_lt m _ _ _ hm
  obtain ⟨z1, w1⟩ := node_open (hval 1 23 v1 rfl rfl) h1
  have k2 := h2
  have lt2 : ∀ x ∈ p2, x.block < W.heap.size := by obtain ⟨m, hm⟩ := k2; exact DataW.trod_lt m _ _ _ hm
  obtain ⟨z2, w2⟩ := node_open (hval 2 23 v2 rfl rfl) h2
  clear hA0 hval0
  refine (walk _ z0 _ z1 _ z2 W w0 w1 w2).mono fun e W' ⟨he, bel⟩ => ?_
  subst he
  exact ⟨_, rfl, _, _, _, [], _, [], hW', trodAll_mk1 (shut_bool Try.underlying4 _), (trodAll_cons_mk (Below.trod laidOut (by kernel_rfl) (of_decide_eq_true (by kernel_rfl)) k0 bel lt0) (trodAll_cons_mk (Below.trod laidOut (by kernel_rfl) (of_decide_eq_true (by kernel_rfl)) k1 bel lt1) (trodAll_cons_mk (Below.trod laidOut (by kernel_rfl) (of_decide_eq_true (by kernel_rfl)) k2 bel lt2) trodAll_mk0))), rfl, bel.frame _, fun h => by cases h⟩

-- the given statement
theorem proved : Rows.NodeOrderSaid :=
  OpenClaim.holds_of_wide 4 Try.f4 rfl rfl rfl rfl rfl rfl rfl ⟨rfl, rfl, rfl, rfl, rfl⟩ rfl rfl rfl rfl rfl (by kernel_rfl) Try.func4 (by kernel_rfl)
    (of_decide_eq_true (by kernel_rfl)) (by unfold Func.isWrapper; first | (rw [if_pos (by decide +kernel)]; kernel_rfl) | (rw [if_neg (by decide +kernel)]; exact ⟨rfl, rfl⟩))
    (fun os started H enc _ => lifted os started H enc)
end Go.Proofs.Ytijhdjdjnolpcaa.nodeOrder
