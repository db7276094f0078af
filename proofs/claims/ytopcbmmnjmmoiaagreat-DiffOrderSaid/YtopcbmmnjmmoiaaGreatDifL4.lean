/- Of every list of nodes (no more than are looked at) and every node: the list from its end on has no difference; with the node behind it, that one is the difference; no condition. -/
import Derived.Test.YtopcbmmnjmmoiaaGreatRows
import Derived.Test.YtopcbmmnjmmoiaaGreatDifU
import Derived.ProofKit
import Derived.OpenShut
import Derived.ShutString
import Derived.ChangeOld
namespace Go.Proofs.YtopcbmmnjmmoiaaGreat.diffOrder
open Go.ChangeShapes Go.WideShapes Go.ChangeAt Go.RowKit
open Go.ChangeMaps (open_string shut_string)
set_option maxRecDepth 100000
set_option linter.unusedVariables false

theorem bin_ltz {w : World} {j : Nat} : Sem.run Tryz.prog (binOp .geq 3 (.int .i64 (j : Int)) (.int .i64 0)) w = .ok (.bool true) w := by
  have h : (0 : Int) ≤ (j : Int) := by omega
  go_simp
set_option maxHeartbeats 3200000 in
theorem walk (U : Value) (l : List Nd) (V : Value) (n : Nd) (w : World) (hU : Nds w U l ∧ ∀ n ∈ l, fitsN n) (hn : V = .agg #[.string (mkB n.1), .string (mkB n.2)] ∧ fitsN n) :
    Calls Tryz.prog 6 #[U, V] w fun e w' => e = .returned (.bool true) ∧ Below w.heap.size w w' := by
  obtain ⟨hU, fU⟩ := hU
  obtain ⟨rfl, fn⟩ := hn
  obtain ⟨ua, uc, rfl, -⟩ := hU.ex
  obtain ⟨ll, hll⟩ : ∃ ll, l.length = ll := ⟨_, rfl⟩
  rw [hll] at hU ⊢
  go_enter Tryz.func6, Tryz.ntmps6
  go_upto_region 1 with fail
  obtain ⟨W, hW, hWs, r0, hb⟩ := boxes1 w n
  rw [hW]
  clear hW
  have e1 : ∀ args w, (callFunc 20 args).run Tryz.prog w = .ok (.enter 20 args) w := enters_of Tryz.func20 (by kernel_rfl) rfl
  have e3 : ∀ args w, (callFunc 7 args).run Tryz.prog w = .ok (.enter 7 args) w := enters_of Tryz.func7 (by kernel_rfl) rfl
  refine lane_run (by kernel_rfl) [[], [0], [], [2], [0, 1], [2, 3]] (by kernel_rfl) [11, 12, 13, 14, 0] [none, none, none, none, none, some 0] [.slot 11 (.slice ua ll uc), .row 12 (fewNs l), .slot 13 (ndV n), .slot 14 (ndV (oneN n)), .row 0 (fewNs l), .cells 0 (oneN n)] [.any, .any, .any, .any, .slot 0 (.slice ua ll uc), .cells 0 n] (by kernel_rfl) w.heap.size W.heap.size rfl hb rfl ?_ ?_ ?_
  · intro j hj
    have hj2 : j = 0 ∨ j = 1 ∨ j = 2 ∨ j = 3 ∨ j = 4 ∨ j = 5 := by have hj3 : j < 6 := hj; omega
    rcases hj2 with rfl | rfl | rfl | rfl | rfl | rfl
    · exact trivial
    · exact trivial
    · exact trivial
    · exact trivial
    · exact rfl
    · exact r0
  · intro i hi a wx hG hF hE
    have hz : a.tmps.size = 79 := hG.size
    have hi2 : i = 0 ∨ i = 1 ∨ i = 2 ∨ i = 3 ∨ i = 4 ∨ i = 5 := by have hi3 : i < 6 := hi; omega
    clear hi
    rcases hi2 with rfl | rfl | rfl | rfl | rfl | rfl
    · exact lane_move rfl rfl (Or.inl rfl) (hE 4 (by decide) (Or.inr (by decide))) ⟨⟨_, rfl⟩, hG.below, Step1.same _ _ _, put_self _ (by rw [hz]; decide)⟩
    · refine lane_call rfl rfl rfl (hF 0 (by decide)) e3 (nfewo_any _ l wx (hU.below hG.below) fU) ?_
      rintro e w1 ⟨v1, rfl, hr1, hb1⟩
      exact ⟨_, rfl, ⟨_, rfl⟩, hG.below.trans (hb1.mono hG.below.size), Step1.of_below hb1 _ _, v1, put_self _ (by rw [hz]; decide), row_base hr1 hG.new⟩
    · exact lane_load rfl rfl rfl ((hG.slots 3 (by decide)).trans rfl) (hE 5 (by decide) (Or.inr (by decide))) ⟨⟨_, rfl⟩, hG.below, Step1.same _ _ _, put_self _ (by rw [hz]; decide)⟩
    · refine lane_call rfl rfl rfl (hF 2 (by decide)) e1 (one_any n.1 n.2 wx fn.1 fn.2) ?_
      rintro e w1 ⟨rfl, hb1⟩
      exact ⟨_, rfl, ⟨_, rfl⟩, hG.below.trans (hb1.mono hG.below.size), Step1.of_below hb1 _ _, put_self _ (by rw [hz]; decide)⟩
    · obtain ⟨v1, hv1, hr1⟩ := hF 1 (by decide)
      exact lane_move rfl rfl (Or.inr rfl) hv1 ⟨⟨_, rfl⟩, hG.below, Step1.same _ _ _, v1, put_self _ (by rw [hz]; decide), hr1⟩
    · exact lane_store rfl rfl rfl ((hG.slots 3 (by decide)).trans rfl) (hF 3 (by decide)) (hE 5 (by decide) (Or.inl rfl)) ⟨⟨_, rfl⟩, (hG.below.setCell (Nat.le_add_right _ 0) _).setCell (Nat.le_add_right _ 0) _, Step1.two (B := w.heap.size) (c := 0) wx (by rw [hWs]; omega) _ _, row2_set (hE 5 (by decide) (Or.inl rfl)) _ _⟩
  · intro a wx hG hF
    obtain ⟨v4, fv4, f4⟩ := hF 4 (by decide)
    replace fv4 : a.tmps.getD 0 undef = v4 := eval_slot (s := 0) fv4
    have f5 : wx.heap[w.heap.size]? = some (.cells #[.string (mkB (oneN n).1), .string (mkB (oneN n).2)] 40 (0, 0)) := hF 5 (by decide)
    have hbx := hG.below
    have hnx := hG.new
    rw [hG.frame]
    simp only [List.foldl_cons, List.foldl_nil, List.setIfInBounds_toArray, List.set_cons_zero, List.set_cons_succ]
    rw [fv4]
    generalize a.tmps.getD 11 undef = u15
    generalize a.tmps.getD 12 undef = u16
    generalize a.tmps.getD 13 undef = u17
    generalize a.tmps.getD 14 undef = u18
    clear hF hG
    have slx := fewNs_len l
    have smx := fewNs_small l
    have sy := oneN_small n
    obtain ⟨x, hx⟩ : ∃ x, fewNs l = x := ⟨_, rfl⟩
    obtain ⟨⟨y1, y2⟩, hy⟩ : ∃ y, oneN n = y := ⟨_, rfl⟩
    rw [hx] at f4 slx smx; rw [hy] at f5 sy
    obtain ⟨xa, xc, rfl, hn1⟩ := ndsO f4
    obtain ⟨c0, c1, _, _⟩ := row2 f5
    simp only at c0 c1
    obtain ⟨k, hk⟩ : ∃ k, x.length = k := ⟨_, rfl⟩
    rw [hk] at hn1 slx ⊢
    have B := Lib.hid hbx; have S1 := Lib.hid hn1; have SY := Lib.hid sy; have SX := Lib.hid smx; have HK := Lib.hid hk
    have C0 := Lib.hid c0; have C1 := Lib.hid c1
    clear f4 f5 fv4 r0 hb hWs hnx hx hy fU fn hU hll hbx sy smx hn1 hk c0 c1
    have hs0 : IntKind.i64.wrap ((k : Int) - 1) = (k : Int) - 1 := IntWalk.i64_in _ (by omega)
    obtain ⟨W0, rfl⟩ : ∃ W0 : World, W0 = wx := ⟨_, rfl⟩
    go_wp2
    go_loopw [5, 6] (fun bk i wr => ∃ (t : Nat) (acc : List Nd), t ≤ k ∧ i = .int .i64 ((t : Int) - 1) ∧ acc.length + t = k ∧ Hid (acc = (x.drop t).reverse) ∧ wr.ownsRow W0.heap.size 40 2 bk acc.length (ndsC acc) ∧ Hid (Below W0.heap.size W0 wr)) (fun _ i _ => (intOf i + 1).toNat)
    case atStart => exact ⟨k, [], Nat.le_refl _, rfl, by simp, Lib.hid (by rw [List.drop_of_length_le (by rw [HK.out]; exact Nat.le_refl _)]; rfl), World.ownsRow_nil _ _ _ _, Lib.hid (Below.refl _ _)⟩
    case round =>
      obtain ⟨t, acc, htk, rfl, hal, HA, hown, HB⟩ := hrel
      clear hs0
      cases t with
      | succ j =>
        have e0 : ((j + 1 : Nat) : Int) - 1 = (j : Int) := by omega
        rw [e0]
        have hjl : j < x.length := by rw [HK.out]; omega
        obtain ⟨bb, off, rfl, -, hc0, hc1⟩ := (S1.out.below HB.out).at j hjl
        have hdr : (x.drop j).reverse = (x.drop (j + 1)).reverse ++ [x.getD j ([], [])] := by rw [List.drop_eq_getElem_cons hjl, List.reverse_cons, nd_getD hjl]
        obtain ⟨z, hz⟩ : ∃ z, z = x.getD j ([], []) := ⟨_, rfl⟩
        rw [← hz] at hc0 hc1 hdr
        obtain ⟨z1, z2⟩ := z
        simp only at hc0 hc1
        have HA2 : Hid (acc ++ [(z1, z2)] = (x.drop j).reverse) := Lib.hid (by rw [hdr, HA.out])
        have hge : (0 : Int) ≤ (j : Int) := by omega
        have hkb : (j : Int) < (k : Int) := by omega
        have hwj : IntKind.i64.wrap ((j : Int) - 1) = (j : Int) - 1 := IntWalk.i64_in _ (by omega)
        have HOWN := Lib.hid hown; have HE0 := Lib.hid e0
        have hlt2 : acc.length ≤ 24 := by omega
        clear hdr hz hown hjl e0
        go_wp2_with (at_builtin; refine wpList_append_new rfl _ _ 22 rfl W0.heap.size 40 (.agg #[.string ByteArray.empty, .string ByteArray.empty]) 2 32 Tryz.underlying22 Tryz.info_node rfl (by decide) _ _ _ rfl HOWN.out [.string (mkB z1), .string (mkB z2)] rfl rfl rfl (by omega) (by unfold maxLen; omega) HB.out.size ?_)
        intro v' w' hown' hb'
        have e2 : ndsC acc ++ [.string (mkB z1), .string (mkB z2)] = ndsC (acc ++ [(z1, z2)]) := (ndsC_snoc acc (z1, z2)).symm
        rw [e2] at hown'
        have ho2 : w'.ownsRow W0.heap.size 40 2 v' (acc ++ [(z1, z2)]).length (ndsC (acc ++ [(z1, z2)])) := by rw [List.length_append]; exact hown'
        have HO2 := Lib.hid ho2; have HBN := Lib.hid (HB.out.trans hb'.toBelow)
        clear ho2 hown' hb'
        go_wp2
        go_roundw
        case rel => exact ⟨j, acc ++ [(z1, z2)], by omega, rfl, by simp; omega, HA2, HO2.out, HBN⟩
        case measure => simp [intOf]
      | zero =>
        have e0 : ((0 : Nat) : Int) - 1 = -1 := rfl
        rw [e0]
        have hac := HA.out
        rw [List.drop_zero] at hac
        rw [Nat.add_zero] at hal
        obtain ⟨pR, cR, rfl, hR⟩ := ndsO hown
        rw [hal] at hown hR ⊢
        subst hac
        have SR := Lib.hid hR; have HOWN := Lib.hid hown; have HRL := Lib.hid hal
        clear e0 hR hown hal HA
        have smr : ∀ n ∈ x.reverse, smallN n := fun n hn => SX.out n (List.mem_reverse.1 hn)
        have smq : ∀ n ∈ x.reverse ++ [(y1, y2)], smallN n := fun n hn => by
          rcases List.mem_append.1 hn with h | h
          · exact smr n h
          · rw [List.mem_singleton.1 h]; exact SY.out
        have hl1 : (x.reverse ++ [(y1, y2)]).length = k + 1 := by rw [List.length_append, HRL.out]; rfl
        have kd := fun U V w h h' => diff_any U V x x.reverse w h h' SX.out smr (by rw [HK.out]; omega) (by rw [HRL.out]; omega)
        have kd2 := fun U V w h h' => diff_any U V x (x.reverse ++ [(y1, y2)]) w h h' SX.out smq (by rw [HK.out]; omega) (by rw [hl1]; omega)
        have ko := fun V w h => lall_any V x w h SX.out
        have km := fun w => refnmay_any y1 y2 w SY.out.1 SY.out.2
        have HL1 := Lib.hid hl1
        clear smr smq hl1
        obtain ⟨o, ho⟩ : ∃ o, allN2 x = o := ⟨_, rfl⟩
        obtain ⟨q, hq⟩ : ∃ o, okN (y1, y2) = o := ⟨_, rfl⟩
        rw [ho] at ko; rw [hq] at km
        cases o
        · rw [diffE_no (by rw [ho]; rfl)] at kd
          rw [diffE_no (by rw [ho]; rfl)] at kd2
          have KD := Lib.hid kd; have KD2 := Lib.hid kd2; have KO := Lib.hid ko
          clear kd kd2 ko
          clear ho hq km
          go_upto_region 8 with (go_at_call 8; refine (KD.out _ _ _ (S1.out.below HB.out) SR.out).mono ?_; rintro e w1 ⟨v1, rfl, hrow, hb1⟩; replace HOWN := Lib.hid (ownsRow_belowB HOWN.out hb1); replace HB := Lib.hid (below_step HB.out hb1); obtain ⟨pSd, cSd, rfl, hd⟩ := dfsO hrow; rw [List.length_nil]; clear hrow hd hb1 KD)
          have d0 := cell_keep C0.out HB.out; have d1 := cell_keep C1.out HB.out
          go_upto_region 9 with (first
            | (at_builtin; refine wpList_append_new rfl _ _ 22 rfl W0.heap.size 40 (.agg #[.string ByteArray.empty, .string ByteArray.empty]) 2 32 Tryz.underlying22 Tryz.info_node rfl (by decide) _ _ _ rfl HOWN.out [.string (mkB y1), .string (mkB y2)] rfl rfl rfl (by omega) (by unfold maxLen; omega) HB.out.size ?_; intro v2 w2 ho2 hb2; have hq2 : w2.ownsRow W0.heap.size 40 2 v2 (x.reverse ++ [(y1, y2)]).length (ndsC (x.reverse ++ [(y1, y2)])) := (by rw [ndsC_snoc, HL1.out]; exact ho2); obtain ⟨a2, c2, rfl, hnd⟩ := ndsO hq2; rw [HL1.out] at hnd ⊢; have SQ := Lib.hid hnd; replace HB := Lib.hid (HB.out.trans hb2.toBelow); clear ho2 hb2 hq2 hnd HOWN d0 d1)
            | (go_at_call 8; refine (KD2.out _ _ _ (S1.out.below HB.out) SQ.out).mono ?_; rintro e w1 ⟨v1, rfl, hrow, hb1⟩; replace HB := Lib.hid (below_step HB.out hb1); obtain ⟨pSm, cSm, rfl, hd⟩ := dfsO hrow; rw [List.length_nil] at hd ⊢; have Sm := Lib.hid hd; clear hrow hd hb1 KD2))
          have BB := Lib.hid (below_step B.out HB.out)
          go_wp2_with (first
            | (go_at_call 10; refine (KO.out _ _ (S1.out.below HB.out)).mono ?_; rintro e w1 ⟨rfl, hb1⟩; replace BB := Lib.hid (below_step BB.out hb1); clear hb1 KO)
            | (go_at_call 13; refine (dawake_any _).mono ?_; rintro e w1 ⟨rfl, hb1⟩; replace BB := Lib.hid (below_step BB.out hb1); clear hb1))
          go_ret
          exact ⟨rfl, BB.out⟩
        · have hxo := allN2_iff.1 ho
          have hxr : allN2 x.reverse = true := allN2_iff.2 fun n hn => hxo n (List.mem_reverse.1 hn)
          rw [diffE_yes (by rw [ho, hxr]; rfl), dif_back hxo] at kd
          cases q
          · rw [diffE_no (by rw [allN2_app, ho, hxr]; unfold allN2; rw [List.all_cons, hq]; rfl)] at kd2
            have KD := Lib.hid kd; have KD2 := Lib.hid kd2; have KM := Lib.hid km
            clear kd kd2 km
            clear ho hq ko hxo hxr
            go_upto_region 8 with (go_at_call 8; refine (KD.out _ _ _ (S1.out.below HB.out) SR.out).mono ?_; rintro e w1 ⟨v1, rfl, hrow, hb1⟩; replace HOWN := Lib.hid (ownsRow_belowB HOWN.out hb1); replace HB := Lib.hid (below_step HB.out hb1); obtain ⟨pSd, cSd, rfl, hd⟩ := dfsO hrow; rw [List.length_nil]; clear hrow hd hb1 KD)
            have d0 := cell_keep C0.out HB.out; have d1 := cell_keep C1.out HB.out
            go_upto_region 9 with (first
              | (at_builtin; refine wpList_append_new rfl _ _ 22 rfl W0.heap.size 40 (.agg #[.string ByteArray.empty, .string ByteArray.empty]) 2 32 Tryz.underlying22 Tryz.info_node rfl (by decide) _ _ _ rfl HOWN.out [.string (mkB y1), .string (mkB y2)] rfl rfl rfl (by omega) (by unfold maxLen; omega) HB.out.size ?_; intro v2 w2 ho2 hb2; have hq2 : w2.ownsRow W0.heap.size 40 2 v2 (x.reverse ++ [(y1, y2)]).length (ndsC (x.reverse ++ [(y1, y2)])) := (by rw [ndsC_snoc, HL1.out]; exact ho2); obtain ⟨a2, c2, rfl, hnd⟩ := ndsO hq2; rw [HL1.out] at hnd ⊢; have SQ := Lib.hid hnd; replace HB := Lib.hid (HB.out.trans hb2.toBelow); clear ho2 hb2 hq2 hnd HOWN d0 d1)
              | (go_at_call 8; refine (KD2.out _ _ _ (S1.out.below HB.out) SQ.out).mono ?_; rintro e w1 ⟨v1, rfl, hrow, hb1⟩; replace HB := Lib.hid (below_step HB.out hb1); obtain ⟨pSm, cSm, rfl, hd⟩ := dfsO hrow; rw [List.length_nil] at hd ⊢; have Sm := Lib.hid hd; clear hrow hd hb1 KD2))
            have BB := Lib.hid (below_step B.out HB.out)
            have d0 := cell_keep C0.out HB.out; have d1 := cell_keep C1.out HB.out
            go_wp2_with (first
              | (go_at_call 21; refine (KM.out _).mono ?_; rintro e w1 ⟨rfl, hb1⟩; replace BB := Lib.hid (below_step BB.out hb1); clear hb1 KM d0 d1)
              | (go_at_call 13; refine (dawake_any _).mono ?_; rintro e w1 ⟨rfl, hb1⟩; replace BB := Lib.hid (below_step BB.out hb1); clear hb1))
            go_ret
            exact ⟨rfl, BB.out⟩
          · rw [diffE_yes (by rw [allN2_app, ho, hxr]; unfold allN2; rw [List.all_cons, hq]; rfl), dif_one hxo hq] at kd2
            have KD := Lib.hid kd; have KD2 := Lib.hid kd2
            clear kd kd2
            clear ho hq ko km hxo hxr
            go_upto_region 8 with (go_at_call 8; refine (KD.out _ _ _ (S1.out.below HB.out) SR.out).mono ?_; rintro e w1 ⟨v1, rfl, hrow, hb1⟩; replace HOWN := Lib.hid (ownsRow_belowB HOWN.out hb1); replace HB := Lib.hid (below_step HB.out hb1); obtain ⟨pSd, cSd, rfl, hd⟩ := dfsO hrow; rw [List.length_nil]; clear hrow hd hb1 KD)
            have d0 := cell_keep C0.out HB.out; have d1 := cell_keep C1.out HB.out
            go_upto_region 9 with (first
              | (at_builtin; refine wpList_append_new rfl _ _ 22 rfl W0.heap.size 40 (.agg #[.string ByteArray.empty, .string ByteArray.empty]) 2 32 Tryz.underlying22 Tryz.info_node rfl (by decide) _ _ _ rfl HOWN.out [.string (mkB y1), .string (mkB y2)] rfl rfl rfl (by omega) (by unfold maxLen; omega) HB.out.size ?_; intro v2 w2 ho2 hb2; have hq2 : w2.ownsRow W0.heap.size 40 2 v2 (x.reverse ++ [(y1, y2)]).length (ndsC (x.reverse ++ [(y1, y2)])) := (by rw [ndsC_snoc, HL1.out]; exact ho2); obtain ⟨a2, c2, rfl, hnd⟩ := ndsO hq2; rw [HL1.out] at hnd ⊢; have SQ := Lib.hid hnd; replace HB := Lib.hid (HB.out.trans hb2.toBelow); clear ho2 hb2 hq2 hnd HOWN d0 d1)
              | (go_at_call 8; refine (KD2.out _ _ _ (S1.out.below HB.out) SQ.out).mono ?_; rintro e w1 ⟨v1, rfl, hrow, hb1⟩; replace HB := Lib.hid (below_step HB.out hb1); obtain ⟨pSm, cSm, rfl, hd⟩ := dfsO hrow; rw [List.length_singleton] at hd ⊢; have Sm := Lib.hid hd; clear hrow hd hb1 KD2))
            have BB := Lib.hid (below_step B.out HB.out)
            obtain ⟨bb, off, rfl, -, m0, m1, m2⟩ := Sm.out.first
            have d0 := cell_keep C0.out HB.out; have d1 := cell_keep C1.out HB.out
            have e4 : ∀ args w, (callFunc 13 args).run Tryz.prog w = .ok (.enter 13 args) w := enters_of Tryz.func13 (by kernel_rfl) rfl
            clear Sm
            go_upto_region 13 with fail
            refine rol_run (by kernel_rfl) [[], [0], [0, 1], [0, 1, 2], [0, 1, 2, 3], [0, 1, 2, 3, 4], [0, 1, 2, 3, 4, 5], [0, 1, 2, 3, 4, 5, 6], [0, 1, 2, 3, 4, 5, 6, 7], [0, 1, 2, 3, 4, 5, 6, 7, 8], [0, 1, 2, 3, 4, 5, 6, 7, 8, 9], [0, 1, 2, 3, 4, 5, 6, 7, 8, 9, 10], [0, 1, 2, 3, 4, 5, 6, 7, 8], [0, 1, 2, 3, 4, 5, 6, 7, 8, 12], [0, 1, 2, 3, 4, 5, 6, 7, 8, 9, 10, 11, 12, 13], [0, 1, 2, 3, 4, 5, 6, 7, 8, 9, 10, 11, 12, 13, 14], [0, 1, 2, 3, 4, 5, 6, 7, 8, 9, 10, 11, 12, 13, 14, 15], [0, 1, 2, 3, 4, 5, 6, 7, 8, 9, 10, 11, 12, 13, 14, 15, 16], [0, 1, 2, 3, 4, 5, 6, 7, 8, 9, 10, 11, 12, 13, 14, 15, 16, 17], [0, 1, 2, 3, 4, 5, 6, 7, 8, 9, 10, 11, 12, 13, 14, 15, 16, 17, 18]] (by kernel_rfl) [60, 61, 62, 63, 64, 65, 66, 67, 68, 69, 70, 71, 72, 73, 74, 75, 76, 77, 78, 4] [[], [0], [1], [2], [3], [3, 4], [3, 5], [3, 6], [7], [8], [8, 9], [8, 10], [8], [8, 12], [8, 11, 13], [8, 14], [15], [16], [16, 17], [18]] [0, 0, 0, 0, 0, 0, 0, 0, 0, 0, 0, 0, 0, 0, 0, 0, 0, 0, 0, 0] [0, 0, 0, 0, 0, 0, 0, 0, 0, 0, 0, 0, 0, 0, 0, 0, 0, 0, 0, 0] [1000, 1000, 1000, 1000, 1000, 1000, 1000, 1000, 1000, 1000, 1000, 1000, 1000, 1000, 1000, 1000, 1000, 1000, 1000, 1000] [.val 60 (.slice pSd 0 cSd), .val 61 (.int .i64 0), .val 62 (.bool true), .val 63 (.bool true), .val 64 (.slice (some ⟨bb, off, none⟩) 1 cSm), .val 65 (.int .i64 1), .val 66 (.bool true), .val 67 (.bool true), .val 68 (.bool true), .val 69 (.slice (some ⟨bb, off, none⟩) 1 cSm), .val 70 (.pointer (some ⟨bb, off, none⟩)), .val 71 (.agg #[.string (mkB y1), .string (mkB y2), .int .i64 1]), .val 72 (.agg #[.string (mkB y1), .string (mkB y2)]), .val 73 (.agg #[.string (mkB y1), .string (mkB y2), .int .i64 1]), .val 74 (.bool true), .val 75 (.bool true), .val 76 (.bool true), .val 77 (.bool true), .val 78 (.bool true), .val 4 (.bool true)] (by kernel_rfl) ?_ (w1.heap.size) (w1.heap.size) rfl (Below.refl _ _) rfl (fun _ => 0) ?_ ?_ ?_
            · intro j hj
              have hj3 : j < 20 := hj
              have hj2 : j = 0 ∨ j = 1 ∨ j = 2 ∨ j = 3 ∨ j = 4 ∨ j = 5 ∨ j = 6 ∨ j = 7 ∨ j = 8 ∨ j = 9 ∨ j = 10 ∨ j = 11 ∨ j = 12 ∨ j = 13 ∨ j = 14 ∨ j = 15 ∨ j = 16 ∨ j = 17 ∨ j = 18 ∨ j = 19 := by omega
              clear hj hj3
              rcases hj2 with rfl | rfl | rfl | rfl | rfl | rfl | rfl | rfl | rfl | rfl | rfl | rfl | rfl | rfl | rfl | rfl | rfl | rfl | rfl | rfl
              · exact trivial
              · exact trivial
              · exact trivial
              · exact trivial
              · exact trivial
              · exact trivial
              · exact trivial
              · exact trivial
              · exact trivial
              · exact trivial
              · exact trivial
              · exact trivial
              · exact trivial
              · exact trivial
              · exact trivial
              · exact trivial
              · exact trivial
              · exact trivial
              · exact trivial
              · exact trivial
            · intro j hj0 hj
              exact absurd hj (Nat.not_lt.2 hj0)
            · intro i hi a wx who hG hF
              have hz : a.tmps.size = 79 := hG.size
              have hi3 : i < 20 := hi
              have hi2 : i = 0 ∨ i = 1 ∨ i = 2 ∨ i = 3 ∨ i = 4 ∨ i = 5 ∨ i = 6 ∨ i = 7 ∨ i = 8 ∨ i = 9 ∨ i = 10 ∨ i = 11 ∨ i = 12 ∨ i = 13 ∨ i = 14 ∨ i = 15 ∨ i = 16 ∨ i = 17 ∨ i = 18 ∨ i = 19 := by omega
              clear hi hi3
              rcases hi2 with rfl | rfl | rfl | rfl | rfl | rfl | rfl | rfl | rfl | rfl | rfl | rfl | rfl | rfl | rfl | rfl | rfl | rfl | rfl | rfl
              · exact rol_val rfl rfl rfl (by rw [hz]; decide) (ex_move (Or.inl rfl) (eval_slot ((hG.slots 7 (by decide)).trans rfl))) hG.below
              · exact rol_val rfl rfl rfl (by rw [hz]; decide) (ex_len rfl (eval_slot (hF 0 (by decide))) (by go_simp)) hG.below
              · exact rol_val rfl rfl rfl (by rw [hz]; decide) (ex_bin rfl (eval_slot (hF 1 (by decide))) rfl (by go_simp) (by go_simp)) hG.below
              · exact rol_val rfl rfl rfl (by rw [hz]; decide) (ex_move (Or.inl rfl) (eval_slot (hF 2 (by decide)))) hG.below
              · exact rol_val rfl (want_yes rfl rfl (hF 3 (by decide))) rfl (by rw [hz]; decide) (ex_move (Or.inl rfl) (eval_slot ((hG.slots 9 (by decide)).trans rfl))) hG.below
              · exact rol_val rfl (want_yes rfl rfl (hF 3 (by decide))) rfl (by rw [hz]; decide) (ex_len rfl (eval_slot (hF 4 (by decide))) (by go_simp)) hG.below
              · exact rol_val rfl (want_yes rfl rfl (hF 3 (by decide))) rfl (by rw [hz]; decide) (ex_bin rfl (eval_slot (hF 5 (by decide))) rfl (by go_simp) (by go_simp)) hG.below
              · exact rol_val rfl rfl rfl (by rw [hz]; decide) (ex_pick_yes rfl (eval_slot (hF 3 (by decide))) (eval_slot (hF 6 (by decide)))) hG.below
              · exact rol_val rfl rfl rfl (by rw [hz]; decide) (ex_move (Or.inl rfl) (eval_slot (hF 7 (by decide)))) hG.below
              · exact rol_val rfl (want_yes rfl rfl (hF 8 (by decide))) rfl (by rw [hz]; decide) (ex_move (Or.inl rfl) (eval_slot ((hG.slots 9 (by decide)).trans rfl))) hG.below
              · exact rol_val rfl (want_yes rfl rfl (hF 8 (by decide))) rfl (by rw [hz]; decide) (ex_index rfl (eval_slot (hF 9 (by decide))) rfl (idx0_df (by decide))) hG.below
              · exact rol_val rfl (want_yes rfl rfl (hF 8 (by decide))) rfl (by rw [hz]; decide) (ex_load rfl (eval_slot (hF 10 (by decide))) (ld_df (cell_keep m0 hG.below) (cell_keep m1 hG.below) (cell_keep m2 hG.below))) hG.below
              · exact rol_val rfl (want_yes rfl rfl (hF 8 (by decide))) rfl (by rw [hz]; decide) (ex_load rfl (eval_slot ((hG.slots 3 (by decide)).trans rfl)) (ld_node (cell_keep d0 hG.below) (cell_keep d1 hG.below))) hG.below
              · exact rol_val rfl (want_yes rfl rfl (hF 8 (by decide))) rfl (by rw [hz]; decide) (ex_build rfl (vs := #[(0, .agg #[.string (mkB y1), .string (mkB y2)]), (1, .int .i64 1)]) (by simp only [List.map_toArray, List.map_cons, List.map_nil, eval_slot (hF 12 (by decide))]; rfl) build_df) hG.below
              · exact rol_val rfl (want_yes rfl rfl (hF 8 (by decide))) rfl (by rw [hz]; decide) (ex_bin rfl (eval_slot (hF 11 (by decide))) (eval_slot (hF 13 (by decide))) (guard_df _ _ _ _ _ _) (by have h := eq_df y1 y2 y1 y2 1 1 wx; rw [decide_eq_true rfl] at h; exact h)) hG.below
              · exact rol_val rfl rfl rfl (by rw [hz]; decide) (ex_pick_yes rfl (eval_slot (hF 8 (by decide))) (eval_slot (hF 14 (by decide)))) hG.below
              · exact rol_val rfl rfl rfl (by rw [hz]; decide) (ex_move (Or.inl rfl) (eval_slot (hF 15 (by decide)))) hG.below
              · refine rol_call rfl (want_yes rfl rfl (hF 16 (by decide))) rfl (by rw [hz]; decide) (ex_call rfl (by simp) e4) (dawake_any wx) ?_ hG.below hG.new
                rintro e w1 ⟨rfl, hb1⟩
                exact ⟨_, rfl, hb1, .inl rfl⟩
              · exact rol_val rfl rfl rfl (by rw [hz]; decide) (ex_pick_yes rfl (eval_slot (hF 16 (by decide))) (eval_slot (hF 17 (by decide)))) hG.below
              · exact rol_val rfl rfl rfl (by rw [hz]; decide) (ex_move (Or.inr rfl) (eval_slot (hF 18 (by decide)))) hG.below
            · intro a wx who hG hF
              have fv4 : a.tmps.getD 4 undef = .bool true := eval_slot (s := 4) (hF 19 (of_decide_eq_true (by kernel_rfl)) (of_decide_eq_true (by kernel_rfl)))
              have hbx := hG.below
              have hnx := hG.new
              rw [hG.frame]
              simp only [List.foldl_cons, List.foldl_nil, List.setIfInBounds_toArray, List.set_cons_zero, List.set_cons_succ]
              generalize a.tmps.getD 60 undef = u60
              generalize a.tmps.getD 61 undef = u61
              generalize a.tmps.getD 62 undef = u62
              generalize a.tmps.getD 63 undef = u63
              generalize a.tmps.getD 64 undef = u64
              generalize a.tmps.getD 65 undef = u65
              generalize a.tmps.getD 66 undef = u66
              generalize a.tmps.getD 67 undef = u67
              generalize a.tmps.getD 68 undef = u68
              generalize a.tmps.getD 69 undef = u69
              generalize a.tmps.getD 70 undef = u70
              generalize a.tmps.getD 71 undef = u71
              generalize a.tmps.getD 72 undef = u72
              generalize a.tmps.getD 73 undef = u73
              generalize a.tmps.getD 74 undef = u74
              generalize a.tmps.getD 75 undef = u75
              generalize a.tmps.getD 76 undef = u76
              generalize a.tmps.getD 77 undef = u77
              generalize a.tmps.getD 78 undef = u78
              rw [fv4]
              clear hF hG fv4
              go_wp2
              go_ret
              exact ⟨rfl, below_step BB.out hbx⟩

theorem own : ownKnob Tryz.prog.godebug = none := by kernel_rfl
theorem laidOut : laidOutB Tryz.prog = true := by kernel_rfl

set_option maxRecDepth 100000 in
theorem lifted (os : Os) (started : os.Started) (H : Type) (enc : TypeId × Value → H) :
    ReturnsInHanded {} Tryz.checked os 6 .any (Rows.diffOrderSpec.pre6 enc Tryz.prog Tryz.f6 Rows.diffOrderRow.domain false) (Rows.diffOrderSpec.post enc Tryz.prog Tryz.f6 false true false false) := by
  refine returnsInHanded_of_change (C := Tryz.checked) own started (by kernel_rfl) Tryz.func6
    (ChangeSpec.witness6 (enc := enc) (C := Tryz.checked) false ⟨#[], #[.slice none 0 0, .agg #[.string ByteArray.empty, .string ByteArray.empty]], []⟩ 8 (by kernel_rfl) (by kernel_rfl) (by kernel_rfl) (by kernel_rfl)) ?_
  intro W base args ds gs before hval0 hW hcnd _
  have hval : ∀ (j : Nat) t v, Tryz.f6.params[j]? = some t → args[j]? = some v → Value.okWide Tryz.prog W .any base t v := hval0
  have hW' := hW
  obtain ⟨p, q, hA0, hV, rfl, hfz, hnd⟩ := hW
  have hA : DataW.TrodAll enc Tryz.prog W 0 (fun _ => true) true Tryz.f6.params.toList args.toList ds p := hA0
  rw [Tryz.params6] at hA hval
  obtain ⟨v0, vs0, d0, ds0, p0, q0, hargs, rfl, rfl, h0, r0⟩ := trodAll_cons hA
  obtain ⟨v1, vs1, d1, ds1, p1, q1, rfl, rfl, rfl, h1, r1⟩ := trodAll_cons r0
  obtain ⟨rfl, rfl, rfl⟩ := trodAll_nil r1
  obtain rfl : args = #[v0, v1] := by cases args; simp_all
  obtain ⟨rfl, rfl⟩ := trodVars_none hV
  obtain ⟨a0, len0, cap0, rfl⟩ := okWide_slice Tryz.underlying22 (hval 0 22 v0 rfl rfl)
  have k0 := h0
  have lt0 : ∀ x ∈ p0, x.block < W.heap.size := by obtain ⟨m, hm⟩ := k0; exact DataW.trod_lt m _ _ _ hm
  obtain ⟨z0, w0⟩ : ∃ zs, Nds W (.slice a0 len0 cap0) zs ∧ ∀ n ∈ zs, fitsN n := by
    obtain ⟨fuel, hf⟩ := h0
    exact nds_open (by simpa [Value.cells] using hf)
  have k1 := h1
  have lt1 : ∀ x ∈ p1, x.block < W.heap.size := by obtain ⟨m, hm⟩ := k1; exact DataW.trod_lt m _ _ _ hm
  obtain ⟨z1, w1⟩ := node_open (hval 1 40 v1 rfl rfl) h1
  clear hA0 hval0
  refine (walk _ z0 _ z1 W w0 w1).mono fun e W' ⟨he, bel⟩ => ?_
  subst he
  exact ⟨_, rfl, _, _, _, [], _, [], hW', trodAll_mk1 (shut_bool Tryz.underlying4 _), (trodAll_cons_mk (Below.trod laidOut (by kernel_rfl) (of_decide_eq_true (by kernel_rfl)) k0 bel lt0) (trodAll_cons_mk (Below.trod laidOut (by kernel_rfl) (of_decide_eq_true (by kernel_rfl)) k1 bel lt1) trodAll_mk0)), rfl, bel.frame _, fun h => by cases h⟩

-- the given statement
theorem proved : Rows.DiffOrderSaid :=
  OpenClaim.holds_of_wide 6 Tryz.f6 rfl rfl rfl rfl rfl rfl rfl ⟨rfl, rfl, rfl, rfl, rfl⟩ rfl rfl rfl rfl rfl (by kernel_rfl) Tryz.func6 (by kernel_rfl)
    (of_decide_eq_true (by kernel_rfl)) (by unfold Func.isWrapper; first | (rw [if_pos (by decide +kernel)]; kernel_rfl) | (rw [if_neg (by decide +kernel)]; exact ⟨rfl, rfl⟩))
    (fun os started H enc _ => lifted os started H enc)
end Go.Proofs.YtopcbmmnjmmoiaaGreat.diffOrder
