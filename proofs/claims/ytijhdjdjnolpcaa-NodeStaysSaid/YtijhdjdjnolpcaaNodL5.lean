/- Of every list of nodes and every node (no more, and no longer, than is looked at): what comes is a set, in whatever order; with a node and then without it as it was; what is written is read; no condition. -/
import Derived.Test.YtijhdjdjnolpcaaRows
import Derived.Test.YtijhdjdjnolpcaaNodR
import Derived.Test.YtijhdjdjnolpcaaNodV
import Derived.ProofKit
import Derived.OpenShut
import Derived.ShutString
import Derived.ChangeOld
namespace Go.Proofs.Ytijhdjdjnolpcaa.nodeStays
open Go.ChangeShapes Go.WideShapes Go.ChangeAt Go.RowKit
open Go.ChangeMaps (open_string shut_string)
set_option maxRecDepth 100000
set_option linter.unusedVariables false

set_option maxRecDepth 100000 in
set_option maxHeartbeats 6400000 in
theorem walk (U : Value) (l : List Nd) (V : Value) (n : Nd) (w : World) (hU : Nds w U l ∧ ∀ n ∈ l, fitsN n) (hn : V = .agg #[.string (mkB n.1), .string (mkB n.2)] ∧ fitsN n) :
    Calls Try.prog 5 #[U, V] w fun e w' => e = .returned (.bool true) ∧ Below w.heap.size w w' := by
  obtain ⟨hU, fU⟩ := hU
  obtain ⟨rfl, fn⟩ := hn
  obtain ⟨ua, uc, rfl, -⟩ := hU.ex
  obtain ⟨ll, hll⟩ : ∃ ll, l.length = ll := ⟨_, rfl⟩
  rw [hll] at hU ⊢
  go_enter Try.func5, Try.ntmps5
  go_upto_region 1 with fail
  obtain ⟨W, hW, hWs, r0, hb⟩ := boxes1 w n
  rw [hW]
  clear hW
  have e1 : ∀ args w, (callFunc 8 args).run Try.prog w = .ok (.enter 8 args) w := enters_of Try.func8 (by kernel_rfl) rfl
  have e3 : ∀ args w, (callFunc 17 args).run Try.prog w = .ok (.enter 17 args) w := enters_of Try.func17 (by kernel_rfl) rfl
  refine lane_run (by kernel_rfl) [[], [0], [], [2], [0, 1], [2, 3]] (by kernel_rfl) [23, 24, 25, 26, 0] [none, none, none, none, none, some 0] [.slot 23 (.slice ua ll uc), .row 24 (fewNs l), .slot 25 (ndV n), .slot 26 (ndV (oneN n)), .row 0 (fewNs l), .cells 0 (oneN n)] [.any, .any, .any, .any, .slot 0 (.slice ua ll uc), .cells 0 n] (by kernel_rfl) w.heap.size W.heap.size rfl hb rfl ?_ ?_ ?_
  · intro j hj
    have hj2 : j = 0 ∨ j = 1 ∨ j = 2 ∨ j = 3 ∨ j = 4 ∨ j = 5 := by have hj3 : j < 6 := hj; omega
    rcases hj2 with rfl | rfl | rfl | rfl | rfl | rfl
    · exact trivial
    · exact trivial
    · exact trivial
    · exact trivial
    · exact rfl
    · exact r0
  · intro i hi a wx hG hF hE
    have hz : a.tmps.size = 168 := hG.size
    have hi2 : i = 0 ∨ i = 1 ∨ i = 2 ∨ i = 3 ∨ i = 4 ∨ i = 5 := by have hi3 : i < 6 := hi; omega
    clear hi
    rcases hi2 with rfl | rfl | rfl | rfl | rfl | rfl
    · exact lane_move rfl rfl (Or.inl rfl) (hE 4 (by decide) (Or.inr (by decide))) ⟨⟨_, rfl⟩, hG.below, Step1.same _ _ _, put_self _ (by rw [hz]; decide)⟩
    · refine lane_call rfl rfl rfl (hF 0 (by decide)) e3 (nfewo_any _ l wx (hU.below hG.below) fU) ?_
      rintro e w1 ⟨v1, rfl, hr1, hb1⟩
      exact ⟨_, rfl, ⟨_, rfl⟩, hG.below.trans (hb1.mono hG.below.size), Step1.of_below hb1 _ _, v1, put_self _ (by rw [hz]; decide), row_base hr1 hG.new⟩
    · exact lane_load rfl rfl rfl ((hG.slots 3 (by decide)).trans rfl) (hE 5 (by decide) (Or.inr (by decide))) ⟨⟨_, rfl⟩, hG.below, Step1.same _ _ _, put_self _ (by rw [hz]; decide)⟩
    · refine lane_call rfl rfl rfl (hF 2 (by decide)) e1 (one_any n.1 n.2 wx fn.1 fn.2) ?_
      rintro e w1 ⟨rfl, hb1⟩
      exact ⟨_, rfl, ⟨_, rfl⟩, hG.below.trans (hb1.mono hG.below.size), Step1.of_below hb1 _ _, put_self _ (by rw [hz]; decide)⟩
    · obtain ⟨v1, hv1, hr1⟩ := hF 1 (by decide)
      exact lane_move rfl rfl (Or.inr rfl) hv1 ⟨⟨_, rfl⟩, hG.below, Step1.same _ _ _, v1, put_self _ (by rw [hz]; decide), hr1⟩
    · exact lane_store rfl rfl rfl ((hG.slots 3 (by decide)).trans rfl) (hF 3 (by decide)) (hE 5 (by decide) (Or.inl rfl)) ⟨⟨_, rfl⟩, (hG.below.setCell (Nat.le_add_right _ 0) _).setCell (Nat.le_add_right _ 0) _, Step1.two (B := w.heap.size) (c := 0) wx (by rw [hWs]; omega) _ _, row2_set (hE 5 (by decide) (Or.inl rfl)) _ _⟩
  · intro a wx hG hF
    obtain ⟨v4, fv4, f4⟩ := hF 4 (by decide)
    replace fv4 : a.tmps.getD 0 undef = v4 := eval_slot (s := 0) fv4
    have f5 : wx.heap[w.heap.size]? = some (.cells #[.string (mkB (oneN n).1), .string (mkB (oneN n).2)] 23 (0, 0)) := hF 5 (by decide)
    have hbx := hG.below
    have hnx := hG.new
    rw [hG.frame]
    simp only [List.foldl_cons, List.foldl_nil, List.setIfInBounds_toArray, List.set_cons_zero, List.set_cons_succ]
    rw [fv4]
    generalize a.tmps.getD 23 undef = u23
    generalize a.tmps.getD 24 undef = u24
    generalize a.tmps.getD 25 undef = u25
    generalize a.tmps.getD 26 undef = u26
    clear hF hG
    have slx := fewNs_len l
    have smx := fewNs_small l
    have sy := oneN_small n
    have sz : (oneN n).1.length ≤ 400 ∧ (oneN n).2.length ≤ 400 := ⟨fewL_len n.1, fewL_len n.2⟩
    obtain ⟨x, hx⟩ : ∃ x, fewNs l = x := ⟨_, rfl⟩
    obtain ⟨⟨y1, y2⟩, hy⟩ : ∃ y, oneN n = y := ⟨_, rfl⟩
    rw [hx] at f4 slx smx; rw [hy] at f5 sy sz
    obtain ⟨xa, xc, rfl, hn1⟩ := ndsO f4
    obtain ⟨c0, c1, _, _⟩ := row2 f5
    simp only at c0 c1
    obtain ⟨k, hk⟩ : ∃ k, x.length = k := ⟨_, rfl⟩
    rw [hk] at hn1 slx ⊢
    have B := Lib.hid hbx; have S1 := Lib.hid hn1; have SY := Lib.hid sy; have SZ := Lib.hid sz; have SX := Lib.hid smx; have HK := Lib.hid hk
    clear f4 f5 fv4 r0 hb hWs hnx hx hy fU fn hU hll hbx sy sz smx hn1 hk
    obtain ⟨ox, hox⟩ : ∃ o, allN x = o := ⟨_, rfl⟩
    obtain ⟨oy, hoy⟩ : ∃ o, okN (y1, y2) = o := ⟨_, rfl⟩
    have h2 := fun U w h => nset_any U x w h SX.out (by rw [HK.out]; omega)
    have h3 := fun w => nmay_any y1 y2 w SY.out.1 SY.out.2
    rw [hoy] at h3
    cases ox
    · rw [setNE_no hox] at h2
      clear hox hoy
      go_wp2_with (first | (go_at_call 18; refine (h2 _ _ S1.out).mono ?_; rintro e w1 ⟨aS2, cS2, rfl, hnn, hb1⟩; have S2 := Lib.hid hnn; replace B := Lib.hid (below_step B.out hb1); replace S1 := Lib.hid (S1.out.below hb1); replace c0 := cell_keep c0 hb1; replace c1 := cell_keep c1 hb1; clear hb1 hnn h2) | (go_at_call 15; refine (nawake_any _).mono ?_; rintro e w1 ⟨rfl, hb1⟩; replace B := Lib.hid (below_step B.out hb1); clear hb1))
      go_ret
      exact ⟨rfl, B.out⟩
    · rw [setNE_yes hox] at h2
      obtain ⟨S, hS⟩ : ∃ S, setN x = S := ⟨_, rfl⟩
      rw [hS] at h2
      cases oy
      · clear hox hoy hS
        go_wp2_with (first | (go_at_call 18; refine (h2 _ _ S1.out).mono ?_; rintro e w1 ⟨aS2, cS2, rfl, hnn, hb1⟩; have S2 := Lib.hid hnn; replace B := Lib.hid (below_step B.out hb1); replace S1 := Lib.hid (S1.out.below hb1); replace c0 := cell_keep c0 hb1; replace c1 := cell_keep c1 hb1; clear hb1 hnn h2) | (go_at_call 11; refine (h3 _).mono ?_; rintro e w1 ⟨rfl, hb1⟩; replace B := Lib.hid (below_step B.out hb1); replace S1 := Lib.hid (S1.out.below hb1); replace S2 := Lib.hid (S2.out.below hb1); replace c0 := cell_keep c0 hb1; replace c1 := cell_keep c1 hb1; clear hb1 h3) | (go_at_call 15; refine (nawake_any _).mono ?_; rintro e w1 ⟨rfl, hb1⟩; replace B := Lib.hid (below_step B.out hb1); clear hb1))
        go_ret
        exact ⟨rfl, B.out⟩
      · have hokx := allN_ok hox
        have hcS : checkN S = true := by rw [← hS]; exact setN_check hokx
        have hsS : ∀ n ∈ S, smallN n := by rw [← hS]; exact set_small hokx SX.out
        have hlS : S.length ≤ 24 := by have := setN_len x; rw [hS, HK.out] at this; omega
        have hrev : setNE x.reverse = (S, 0) := by rw [setNE_yes (by unfold allN; rw [List.all_reverse]; exact hox), setN_rev hokx, hS]
        obtain ⟨T, hT⟩ : ∃ T, withN S (y1, y2) = T := ⟨_, rfl⟩
        have hcT : checkN T = true := by rw [← hT]; exact withN_check hcS hoy
        have hsT : ∀ n ∈ T, smallN n := by rw [← hT]; exact with_small hcS hoy hsS SY.out
        have hlT : T.length ≤ 25 := by have := withN_len1 S (y1, y2); rw [hT] at this; omega
        obtain ⟨Z, hZ⟩ : ∃ Z, minusN T [(y1, y2)] = Z := ⟨_, rfl⟩
        have hone : checkN [(y1, y2)] = true := checkN_of (by intro n hn; rw [List.mem_singleton] at hn; rw [hn]; exact hoy) (by simp [Rises])
        have hhT : hasN T (y1, y2) = true := by rw [← hT]; exact hasN_with hcS hoy
        obtain ⟨o, ho⟩ : ∃ o, hasN S (y1, y2) = o := ⟨_, rfl⟩
        have h4 := fun U w h => nset_any U x.reverse w h (fun n hn => SX.out n (List.mem_reverse.1 hn)) (by rw [List.length_reverse, HK.out]; omega)
        rw [hrev] at h4
        have h5 := fun U w h => nwith_any U S y1 y2 w h hsS (by omega) SY.out.1 SY.out.2
        rw [withNE_yes hcS hoy, hT] at h5
        have h6 := fun U w h => nwithout_any U T y1 y2 w h hsT (by omega) SY.out.1 SY.out.2
        rw [minusNE_yes hcT hone, hZ] at h6
        have h7 := fun U w h => nhasE_any U S y1 y2 w h hsS SY.out.1 SY.out.2
        rw [hasNE_yes hcS hoy, ho] at h7
        have h8 := fun U w h => nhasE_any U T y1 y2 w h hsT SY.out.1 SY.out.2
        rw [hasNE_yes hcT hoy, hhT] at h8
        have h9 := fun U V w h h' => nminus_any U V S S w h h' hsS hsS (by omega) (by omega)
        rw [minusNE_yes hcS hcS, minusN_self] at h9
        have h10 := fun U w h => ncheck_e U S w h hsS
        rw [chkE_yes hcS] at h10
        have h11 := fun U w h => ncheck_e U T w h hsT
        rw [chkE_yes hcT] at h11
        have h12 := fun U V w hu hv => nsame_any U V S S w hu hv
        rw [show decide (S = S) = true from decide_eq_true rfl] at h12
        have h13 := fun w => ntext_any y1 y2 w SY.out.1 SY.out.2
        have htl : (textN (y1, y2)).length ≤ 1000000000 := by have h1 := SZ.out.1; have h2 := SZ.out.2; unfold textN; simp only [List.length_append, List.length_cons]; simp only at h1 h2; omega
        have h14 := fun w => nread_any (textN (y1, y2)) y1 y2 (text_read hoy) w htl SY.out.1 SY.out.2
        have hcut : okN (cutA (textN (y1, y2))) = true := by rw [text_read hoy]; exact hoy
        rw [readN_ok hcut, readE_ok hcut, text_read hoy] at h14
        obtain ⟨tx, htx⟩ : ∃ t, textN (y1, y2) = t := ⟨_, rfl⟩
        rw [htx] at h13 h14
        have hTS : o = true → T = S := fun e => by rw [← hT]; exact withN_same hcS hoy (hasN_iff.1 (by rw [ho, e]))
        have hZS : o = false → Z = S := fun e => by rw [← hZ, ← hT]; exact minus_with hcS hoy (hasN_not.1 (by rw [ho, e]))
        have heq : ∀ w, Sem.run Try.prog (binOp .eql 23 (.agg #[.string (mkB y1), .string (mkB y2)]) (.agg #[.string (mkB y1), .string (mkB y2)])) w = .ok (.bool true) w := fun w => by rw [eq_nd]; simp
        have hgd := guard_nd
        have HTS := Lib.hid hTS; have HZS := Lib.hid hZS
        clear hox hoy hS hokx hcS hsS hrev hT hcT hsT hlT hZ hone hhT ho htl hcut htx hTS hZS
        go_wp2_with (first | (go_at_call 18; refine (h2 _ _ S1.out).mono ?_; rintro e w1 ⟨aS2, cS2, rfl, hnn, hb1⟩; have S2 := Lib.hid hnn; replace B := Lib.hid (below_step B.out hb1); replace S1 := Lib.hid (S1.out.below hb1); replace c0 := cell_keep c0 hb1; replace c1 := cell_keep c1 hb1; clear hb1 hnn h2) | (go_at_call 11; refine (h3 _).mono ?_; rintro e w1 ⟨rfl, hb1⟩; replace B := Lib.hid (below_step B.out hb1); replace S1 := Lib.hid (S1.out.below hb1); replace S2 := Lib.hid (S2.out.below hb1); replace c0 := cell_keep c0 hb1; replace c1 := cell_keep c1 hb1; clear hb1 h3))
        go_loopw [7, 8] (fun v i wr => ∃ (t : Nat) (acc : List Nd), t ≤ k ∧ i = .int .i64 ((t : Int) - 1) ∧ acc.length = k - t ∧ Hid (acc = (x.drop t).reverse) ∧ wr.ownsRow w1.heap.size 23 2 v acc.length (ndsC acc) ∧ Hid (Below w1.heap.size w1 wr)) (fun _ i _ => (intOf i + 1).toNat)
        case atStart => exact ⟨k, [], Nat.le_refl _, by go_num, by simp, Lib.hid (by rw [List.drop_of_length_le (by rw [HK.out]; exact Nat.le_refl _)]; rfl), World.ownsRow_nil _ _ _ _, Lib.hid (Below.refl _ _)⟩
        case round =>
          obtain ⟨t, acc, htk, rfl, hal, HACC, hown, HB⟩ := hrel
          rcases t with _ | t
          · have hac := HACC.out
            rw [List.drop_zero] at hac
            rw [← hac] at h4
            replace hal : acc.length = k := by omega
            obtain ⟨ba, bc, rfl, hnb⟩ := ndsO hown
            rw [hal] at hnb ⊢
            have SB := Lib.hid hnb
            have hb1 := HB.out
            replace B := Lib.hid (below_step B.out hb1); replace S2 := Lib.hid (S2.out.below hb1); replace c0 := cell_keep c0 hb1; replace c1 := cell_keep c1 hb1
            clear hb1 HB hnb hown HACC hac hal S1
            rw [show (((0 : Nat) : Int) - 1) = -1 from rfl]
            go_upto_region 18 with (first
        | (go_at_call 18; refine (h4 _ _ SB.out).mono ?_; rintro e w1 ⟨aS3, cS3, rfl, hnn, hb1⟩; have S3 := Lib.hid hnn; replace B := Lib.hid (below_step B.out hb1); replace S2 := Lib.hid (S2.out.below hb1); replace c0 := cell_keep c0 hb1; replace c1 := cell_keep c1 hb1; clear hb1 hnn h4)
        | (go_at_call 19; refine (h5 _ _ S2.out).mono ?_; rintro e w1 ⟨aS4, cS4, rfl, hnn, hb1⟩; have S4 := Lib.hid hnn; replace B := Lib.hid (below_step B.out hb1); replace S2 := Lib.hid (S2.out.below hb1); replace S3 := Lib.hid (S3.out.below hb1); replace c0 := cell_keep c0 hb1; replace c1 := cell_keep c1 hb1; clear hb1 hnn h5)
        | (go_at_call 20; refine (h6 _ _ S4.out).mono ?_; rintro e w1 ⟨aS5, cS5, rfl, hnn, hb1⟩; have S5 := Lib.hid hnn; replace B := Lib.hid (below_step B.out hb1); replace S2 := Lib.hid (S2.out.below hb1); replace S3 := Lib.hid (S3.out.below hb1); replace S4 := Lib.hid (S4.out.below hb1); replace c0 := cell_keep c0 hb1; replace c1 := cell_keep c1 hb1; clear hb1 hnn h6)
        | (go_at_call 21; refine (h7 _ _ S2.out).mono ?_; rintro e w1 ⟨rfl, hb1⟩; replace B := Lib.hid (below_step B.out hb1); replace S2 := Lib.hid (S2.out.below hb1); replace S3 := Lib.hid (S3.out.below hb1); replace S4 := Lib.hid (S4.out.below hb1); replace S5 := Lib.hid (S5.out.below hb1); replace c0 := cell_keep c0 hb1; replace c1 := cell_keep c1 hb1; clear hb1 h7)
        | (go_at_call 21; refine (h8 _ _ S4.out).mono ?_; rintro e w1 ⟨rfl, hb1⟩; replace B := Lib.hid (below_step B.out hb1); replace S2 := Lib.hid (S2.out.below hb1); replace S3 := Lib.hid (S3.out.below hb1); replace S4 := Lib.hid (S4.out.below hb1); replace S5 := Lib.hid (S5.out.below hb1); replace c0 := cell_keep c0 hb1; replace c1 := cell_keep c1 hb1; clear hb1 h8)
        | (go_at_call 22; refine (h9 _ _ _ S2.out S2.out).mono ?_; rintro e w1 ⟨_, _, rfl, -, hb1⟩; replace B := Lib.hid (below_step B.out hb1); replace S2 := Lib.hid (S2.out.below hb1); replace S3 := Lib.hid (S3.out.below hb1); replace S4 := Lib.hid (S4.out.below hb1); replace S5 := Lib.hid (S5.out.below hb1); replace c0 := cell_keep c0 hb1; replace c1 := cell_keep c1 hb1; clear hb1 h9)
        | (go_at_call 23; refine (h10 _ _ S2.out).mono ?_; rintro e w1 ⟨rfl, hb1⟩; replace B := Lib.hid (below_step B.out hb1); replace S2 := Lib.hid (S2.out.below hb1); replace S3 := Lib.hid (S3.out.below hb1); replace S4 := Lib.hid (S4.out.below hb1); replace S5 := Lib.hid (S5.out.below hb1); replace c0 := cell_keep c0 hb1; replace c1 := cell_keep c1 hb1; clear hb1 h10)
        | (go_at_call 23; refine (h11 _ _ S4.out).mono ?_; rintro e w1 ⟨rfl, hb1⟩; replace B := Lib.hid (below_step B.out hb1); replace S2 := Lib.hid (S2.out.below hb1); replace S3 := Lib.hid (S3.out.below hb1); replace S4 := Lib.hid (S4.out.below hb1); replace S5 := Lib.hid (S5.out.below hb1); replace c0 := cell_keep c0 hb1; replace c1 := cell_keep c1 hb1; clear hb1 h11)
        | (go_at_call 24; refine (h12 _ _ _ S2.out S3.out).mono ?_; rintro e w1 ⟨rfl, hb1⟩; replace B := Lib.hid (below_step B.out hb1); replace S2 := Lib.hid (S2.out.below hb1); replace S3 := Lib.hid (S3.out.below hb1); replace S4 := Lib.hid (S4.out.below hb1); replace S5 := Lib.hid (S5.out.below hb1); replace c0 := cell_keep c0 hb1; replace c1 := cell_keep c1 hb1; clear hb1 h12))
            go_upto_region 19 with (first
        | (go_at_call 13; refine (h13 _).mono ?_; rintro e w1 ⟨rfl, hb1⟩; replace B := Lib.hid (below_step B.out hb1); replace S2 := Lib.hid (S2.out.below hb1); replace S3 := Lib.hid (S3.out.below hb1); replace S4 := Lib.hid (S4.out.below hb1); replace S5 := Lib.hid (S5.out.below hb1); replace c0 := cell_keep c0 hb1; replace c1 := cell_keep c1 hb1; clear hb1 h13)
        | (go_at_call 14; refine (h14 _).mono ?_; rintro e w1 ⟨rfl, hb1⟩; replace B := Lib.hid (below_step B.out hb1); replace S2 := Lib.hid (S2.out.below hb1); replace S3 := Lib.hid (S3.out.below hb1); replace S4 := Lib.hid (S4.out.below hb1); replace S5 := Lib.hid (S5.out.below hb1); replace c0 := cell_keep c0 hb1; replace c1 := cell_keep c1 hb1; clear hb1 h14))
            obtain ⟨X, g, hX, hg, q0, q1, hb1⟩ := boxB1 w1 (.string (mkB y1)) (.string (mkB y2)) 23
            rw [hX, hg]
            clear hX hg
            replace B := Lib.hid (below_step B.out hb1); replace S2 := Lib.hid (S2.out.below hb1); replace S3 := Lib.hid (S3.out.below hb1); replace S4 := Lib.hid (S4.out.below hb1); replace S5 := Lib.hid (S5.out.below hb1); replace c0 := cell_keep c0 hb1; replace c1 := cell_keep c1 hb1
            clear hb1
            cases o
            · have h15 := fun U V w hu hv => nsame_any U V Z S w hu hv
              rw [decide_eq_true (HZS.out rfl)] at h15
              go_wp2_with (first | (go_at_call 24; refine (h15 _ _ _ S5.out S2.out).mono ?_; rintro e w1 ⟨rfl, hb1⟩; replace B := Lib.hid (below_step B.out hb1); replace c0 := cell_keep c0 hb1; replace c1 := cell_keep c1 hb1; replace q0 := cell_keep q0 hb1; replace q1 := cell_keep q1 hb1; clear hb1 h15) | (go_at_call 15; refine (nawake_any _).mono ?_; rintro e w1 ⟨rfl, hb1⟩; replace B := Lib.hid (below_step B.out hb1); clear hb1))
              go_ret
              exact ⟨rfl, B.out⟩
            · have h15 := fun U V w hu hv => nsame_any U V T S w hu hv
              rw [decide_eq_true (HTS.out rfl)] at h15
              go_wp2_with (first | (go_at_call 24; refine (h15 _ _ _ S4.out S2.out).mono ?_; rintro e w1 ⟨rfl, hb1⟩; replace B := Lib.hid (below_step B.out hb1); replace c0 := cell_keep c0 hb1; replace c1 := cell_keep c1 hb1; replace q0 := cell_keep q0 hb1; replace q1 := cell_keep q1 hb1; clear hb1 h15) | (go_at_call 15; refine (nawake_any _).mono ?_; rintro e w1 ⟨rfl, hb1⟩; replace B := Lib.hid (below_step B.out hb1); clear hb1))
              go_ret
              exact ⟨rfl, B.out⟩
          · rw [show (((t + 1 : Nat) : Int) - 1) = (t : Int) by omega]
            have htl : t < x.length := by rw [HK.out]; omega
            obtain ⟨b, off, rfl, -, hc0, hc1⟩ := (S1.out.below HB.out).at t htl
            have hst := rev_step htl
            obtain ⟨y, hy⟩ : ∃ y, y = x.getD t ([], []) := ⟨_, rfl⟩
            rw [← hy] at hc0 hc1 hst
            have HST := Lib.hid hst
            have htk2 : (t : Int) < (k : Int) := by omega
            clear hy hst htl
            go_wp2_with (at_builtin; refine wpList_append_new rfl _ _ 37 rfl w1.heap.size 23 (.agg #[.string ByteArray.empty, .string ByteArray.empty]) 2 32 Try.underlying37 Try.info_node rfl (by decide) _ _ _ rfl hown [.string (mkB y.1), .string (mkB y.2)] rfl rfl rfl (by omega) (by unfold maxLen; omega) HB.out.size ?_)
            intro v' w' hown' hb'
            have e2 : ndsC acc ++ [.string (mkB y.1), .string (mkB y.2)] = ndsC (acc ++ [y]) := (ndsC_snoc acc y).symm
            rw [e2] at hown'
            have ho2 : w'.ownsRow w1.heap.size 23 2 v' (acc ++ [y]).length (ndsC (acc ++ [y])) := by rw [List.length_append, hal]; exact hown'
            have HO := Lib.hid ho2; have HBN := Lib.hid (HB.out.trans hb'.toBelow)
            have HAC : Hid (acc ++ [y] = (x.drop t).reverse) := Lib.hid (by rw [HST.out, HACC.out])
            clear ho2 hown' hb' hown
            go_wp2
            go_roundw
            case rel => exact ⟨t, acc ++ [y], by omega, by go_num, by simp; omega, HAC, HO.out, HBN⟩
            case measure => simp [intOf]; try omega

theorem own : ownKnob Try.prog.godebug = none := by kernel_rfl
theorem laidOut : laidOutB Try.prog = true := by kernel_rfl

set_option maxRecDepth 100000 in
theorem lifted (os : Os) (started : os.Started) (H : Type) (enc : TypeId × Value → H) :
    ReturnsInHanded {} Try.checked os 5 .any (Rows.nodeStaysSpec.pre6 enc Try.prog Try.f5 Rows.nodeStaysRow.domain false) (Rows.nodeStaysSpec.post enc Try.prog Try.f5 false true false false) := by
  refine returnsInHanded_of_change (C := Try.checked) own started (by kernel_rfl) Try.func5
    (ChangeSpec.witness6 (enc := enc) (C := Try.checked) false ⟨#[], #[.slice none 0 0, .agg #[.string ByteArray.empty, .string ByteArray.empty]], []⟩ 8 (by kernel_rfl) (by kernel_rfl) (by kernel_rfl) (by kernel_rfl)) ?_
  intro W base args ds gs before hval0 hW hcnd _
  have hval : ∀ (j : Nat) t v, Try.f5.params[j]? = some t → args[j]? = some v → Value.okWide Try.prog W .any base t v := hval0
  have hW' := hW
  obtain ⟨p, q, hA0, hV, rfl, hfz, hnd⟩ := hW
  have hA : DataW.TrodAll enc Try.prog W 0 (fun _ => true) true Try.f5.params.toList args.toList ds p := hA0
  rw [Try.params5] at hA hval
  obtain ⟨v0, vs0, d0, ds0, p0, q0, hargs, rfl, rfl, h0, r0⟩ := trodAll_cons hA
  obtain ⟨v1, vs1, d1, ds1, p1, q1, rfl, rfl, rfl, h1, r1⟩ := trodAll_cons r0
  obtain ⟨rfl, rfl, rfl⟩ := trodAll_nil r1
  obtain rfl : args = #[v0, v1] := by cases args; simp_all
  obtain ⟨rfl, rfl⟩ := trodVars_none hV
  obtain ⟨a0, len0, cap0, rfl⟩ := okWide_slice Try.underlying37 (hval 0 37 v0 rfl rfl)
  have k0 := h0
  have lt0 : ∀ x ∈ p0, x.block < W.heap.size := by obtain ⟨m, hm⟩ := k0; exact DataW.trod_lt m _ _ _ hm
  obtain ⟨z0, w0⟩ : ∃ zs, Nds W (.slice a0 len0 cap0) zs ∧ ∀ n ∈ zs, fitsN n := by
    obtain ⟨fuel, hf⟩ := h0
    exact nds_open (by simpa [Value.cells] using hf)
  have k1 := h1
  have lt1 : ∀ x ∈ p1, x.block < W.heap.size := by obtain ⟨m, hm⟩ := k1; exact DataW.trod_lt m _ _ _ hm
  obtain ⟨z1, w1⟩ := node_open (hval 1 23 v1 rfl rfl) h1
  clear hA0 hval0
  refine (walk _ z0 _ z1 W w0 w1).mono fun e W' ⟨he, bel⟩ => ?_
  subst he
  exact ⟨_, rfl, _, _, _, [], _, [], hW', trodAll_mk1 (shut_bool Try.underlying4 _), (trodAll_cons_mk (Below.trod laidOut (by kernel_rfl) (of_decide_eq_true (by kernel_rfl)) k0 bel lt0) (trodAll_cons_mk (Below.trod laidOut (by kernel_rfl) (of_decide_eq_true (by kernel_rfl)) k1 bel lt1) trodAll_mk0)), rfl, bel.frame _, fun h => by cases h⟩

-- the given statement
theorem proved : Rows.NodeStaysSaid :=
  OpenClaim.holds_of_wide 5 Try.f5 rfl rfl rfl rfl rfl rfl rfl ⟨rfl, rfl, rfl, rfl, rfl⟩ rfl rfl rfl rfl rfl (by kernel_rfl) Try.func5 (by kernel_rfl)
    (of_decide_eq_true (by kernel_rfl)) (by unfold Func.isWrapper; first | (rw [if_pos (by decide +kernel)]; kernel_rfl) | (rw [if_neg (by decide +kernel)]; exact ⟨rfl, rfl⟩))
    (fun os started H enc _ => lifted os started H enc)
end Go.Proofs.Ytijhdjdjnolpcaa.nodeStays
