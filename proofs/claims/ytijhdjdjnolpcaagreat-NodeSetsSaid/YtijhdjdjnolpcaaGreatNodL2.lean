/- Of every list of nodes and every node (no more, and no longer, than is looked at): which lists are sets, the set of a list, and a set with a node, and without it, or why not, as the document says; no condition. -/
import Derived.Test.YtijhdjdjnolpcaaGreatRows
import Derived.Test.YtijhdjdjnolpcaaGreatNodR
import Derived.Test.YtijhdjdjnolpcaaGreatNodQ
import Derived.Test.YtijhdjdjnolpcaaGreatNodS
import Derived.Test.YtijhdjdjnolpcaaGreatNodV
import Derived.ProofKit
import Derived.OpenShut
import Derived.ShutString
import Derived.ChangeOld
namespace Go.Proofs.YtijhdjdjnolpcaaGreat.nodeSets
open Go.ChangeShapes Go.WideShapes Go.ChangeAt Go.RowKit
open Go.ChangeMaps (open_string shut_string)
set_option maxRecDepth 100000
set_option linter.unusedVariables false

theorem allN_step {l : List Nd} {k : Nat} (h : k < l.length) : allN (l.take (k + 1)) = (allN (l.take k) && okN (l.getD k ([], []))) := by
  unfold allN
  rw [List.take_succ_eq_append_getElem h, List.all_append, nd_getD h]; simp
theorem check_all {l : List Nd} (h : allN l = false) : checkN l = false := by
  cases hc : checkN l
  · rfl
  · rw [show allN l = true from List.all_eq_true.2 (checkN_ok hc)] at h; cases h
theorem check_one (n : Nd) : checkN [n] = okN n := by
  cases h : okN n
  · exact checkN_no (j := 0) (by simp) (by unfold stepN; simp [h])
  · exact checkN_of (by intro m hm; rw [List.mem_singleton] at hm; rw [hm]; exact h) (by simp [Rises])
set_option maxRecDepth 100000 in
set_option maxHeartbeats 6400000 in
theorem walk (U : Value) (l : List Nd) (V : Value) (n : Nd) (w : World) (hU : Nds w U l ∧ ∀ n ∈ l, fitsN n) (hn : V = .agg #[.string (mkB n.1), .string (mkB n.2)] ∧ fitsN n) :
    Calls Tryz.prog 3 #[U, V] w fun e w' => e = .returned (.bool true) ∧ Below w.heap.size w w' := by
  obtain ⟨hU, fU⟩ := hU
  obtain ⟨rfl, fn⟩ := hn
  obtain ⟨ua, uc, rfl, -⟩ := hU.ex
  obtain ⟨ll, hll⟩ : ∃ ll, l.length = ll := ⟨_, rfl⟩
  rw [hll] at hU ⊢
  go_enter Tryz.func3, Tryz.ntmps3
  go_upto_region 1 with fail
  obtain ⟨W, hW, hWs, r0, hb⟩ := boxes1 w n
  rw [hW]
  clear hW
  have e1 : ∀ args w, (callFunc 6 args).run Tryz.prog w = .ok (.enter 6 args) w := enters_of Tryz.func6 (by kernel_rfl) rfl
  have e3 : ∀ args w, (callFunc 5 args).run Tryz.prog w = .ok (.enter 5 args) w := enters_of Tryz.func5 (by kernel_rfl) rfl
  refine lane_run (by kernel_rfl) [[], [0], [], [2], [0, 1], [2, 3]] (by kernel_rfl) [15, 16, 17, 18, 0] [none, none, none, none, none, some 0] [.slot 15 (.slice ua ll uc), .row 16 (fewNs l), .slot 17 (ndV n), .slot 18 (ndV (oneN n)), .row 0 (fewNs l), .cells 0 (oneN n)] [.any, .any, .any, .any, .slot 0 (.slice ua ll uc), .cells 0 n] (by kernel_rfl) w.heap.size W.heap.size rfl hb rfl ?_ ?_ ?_
  · intro j hj
    have hj2 : j = 0 ∨ j = 1 ∨ j = 2 ∨ j = 3 ∨ j = 4 ∨ j = 5 := by have hj3 : j < 6 := hj; omega
    rcases hj2 with rfl | rfl | rfl | rfl | rfl | rfl
    · exact trivial
    · exact trivial
    · exact trivial
    · exact trivial
    · exact rfl
    · exact r0
  · intro i hi a wx hG hF hE
    have hz : a.tmps.size = 159 := hG.size
    have hi2 : i = 0 ∨ i = 1 ∨ i = 2 ∨ i = 3 ∨ i = 4 ∨ i = 5 := by have hi3 : i < 6 := hi; omega
    clear hi
    rcases hi2 with rfl | rfl | rfl | rfl | rfl | rfl
    · exact lane_move rfl rfl (Or.inl rfl) (hE 4 (by decide) (Or.inr (by decide))) ⟨⟨_, rfl⟩, hG.below, Step1.same _ _ _, put_self _ (by rw [hz]; decide)⟩
    · refine lane_call rfl rfl rfl (hF 0 (by decide)) e3 (nfewo_any _ l wx (hU.below hG.below) fU) ?_
      rintro e w1 ⟨v1, rfl, hr1, hb1⟩
      exact ⟨_, rfl, ⟨_, rfl⟩, hG.below.trans (hb1.mono hG.below.size), Step1.of_below hb1 _ _, v1, put_self _ (by rw [hz]; decide), row_base hr1 hG.new⟩
    · exact lane_load rfl rfl rfl ((hG.slots 3 (by decide)).trans rfl) (hE 5 (by decide) (Or.inr (by decide))) ⟨⟨_, rfl⟩, hG.below, Step1.same _ _ _, put_self _ (by rw [hz]; decide)⟩
    · refine lane_call rfl rfl rfl (hF 2 (by decide)) e1 (one_any n.1 n.2 wx fn.1 fn.2) ?_
      rintro e w1 ⟨rfl, hb1⟩
      exact ⟨_, rfl, ⟨_, rfl⟩, hG.below.trans (hb1.mono hG.below.size), Step1.of_below hb1 _ _, put_self _ (by rw [hz]; decide)⟩
    · obtain ⟨v1, hv1, hr1⟩ := hF 1 (by decide)
      exact lane_move rfl rfl (Or.inr rfl) hv1 ⟨⟨_, rfl⟩, hG.below, Step1.same _ _ _, v1, put_self _ (by rw [hz]; decide), hr1⟩
    · exact lane_store rfl rfl rfl ((hG.slots 3 (by decide)).trans rfl) (hF 3 (by decide)) (hE 5 (by decide) (Or.inl rfl)) ⟨⟨_, rfl⟩, (hG.below.setCell (Nat.le_add_right _ 0) _).setCell (Nat.le_add_right _ 0) _, Step1.two (B := w.heap.size) (c := 0) wx (by rw [hWs]; omega) _ _, row2_set (hE 5 (by decide) (Or.inl rfl)) _ _⟩
  · intro a wx hG hF
    obtain ⟨v4, fv4, f4⟩ := hF 4 (by decide)
    replace fv4 : a.tmps.getD 0 undef = v4 := eval_slot (s := 0) fv4
    have f5 : wx.heap[w.heap.size]? = some (.cells #[.string (mkB (oneN n).1), .string (mkB (oneN n).2)] 24 (0, 0)) := hF 5 (by decide)
    have hbx := hG.below
    have hnx := hG.new
    rw [hG.frame]
    simp only [List.foldl_cons, List.foldl_nil, List.setIfInBounds_toArray, List.set_cons_zero, List.set_cons_succ]
    rw [fv4]
    generalize a.tmps.getD 15 undef = u15
    generalize a.tmps.getD 16 undef = u16
    generalize a.tmps.getD 17 undef = u17
    generalize a.tmps.getD 18 undef = u18
    clear hF hG
    have slx := fewNs_len l
    have smx := fewNs_small l
    have sy := oneN_small n
    have sz : (oneN n).1.length ≤ 400 ∧ (oneN n).2.length ≤ 400 := ⟨fewL_len n.1, fewL_len n.2⟩
    obtain ⟨x, hx⟩ : ∃ x, fewNs l = x := ⟨_, rfl⟩
    obtain ⟨⟨y1, y2⟩, hy⟩ : ∃ y, oneN n = y := ⟨_, rfl⟩
    rw [hx] at f4 slx smx; rw [hy] at f5 sy sz
    obtain ⟨xa, xc, rfl, hn1⟩ := ndsO f4
    obtain ⟨c0, c1, _, _⟩ := row2 f5
    simp only at c0 c1
    obtain ⟨k, hk⟩ : ∃ k, x.length = k := ⟨_, rfl⟩
    rw [hk] at hn1 slx ⊢
    have B := Lib.hid hbx; have S1 := Lib.hid hn1; have SY := Lib.hid sy; have SZ := Lib.hid sz; have SX := Lib.hid smx; have HK := Lib.hid hk
    clear f4 f5 fv4 r0 hb hWs hnx hx hy fU fn hU hll hbx sy sz smx hn1 hk
    obtain ⟨ox, hox⟩ : ∃ o, allN x = o := ⟨_, rfl⟩
    obtain ⟨oy, hoy⟩ : ∃ o, okN (y1, y2) = o := ⟨_, rfl⟩
    obtain ⟨cx, hcx⟩ : ∃ o, checkN x = o := ⟨_, rfl⟩
    have g1 := fun U w h => nset_any U x w h SX.out (by rw [HK.out]; omega)
    have g2 := fun U w h => ncheck_e U x w h SX.out
    have g3 := fun U w h => refncheck_any U x w h SX.out
    have g4 := fun U w h => nhasE_any U x y1 y2 w h SX.out SY.out.1 SY.out.2
    have g5 := fun U w h => nwith_any U x y1 y2 w h SX.out (by rw [HK.out]; omega) SY.out.1 SY.out.2
    have g6 := fun U w h => nwithout_any U x y1 y2 w h SX.out (by rw [HK.out]; omega) SY.out.1 SY.out.2
    have g7 := fun w => refnmay_any y1 y2 w SY.out.1 SY.out.2
    rw [hcx] at g3; rw [hoy] at g7
    have HOX := Lib.hid hox; have HOY := Lib.hid hoy; have HCX := Lib.hid hcx
    clear hox hoy hcx
    have G1 := Lib.hid g1; have G2 := Lib.hid g2; have G3 := Lib.hid g3; have G4 := Lib.hid g4; have G5 := Lib.hid g5; have G6 := Lib.hid g6; have G7 := Lib.hid g7
    clear g1 g2 g3 g4 g5 g6 g7
    obtain ⟨W0, rfl⟩ : ∃ W0 : World, W0 = wx := ⟨_, rfl⟩
    go_wp2
    go_loopw [5, 6] (fun al i wr => ∃ t : Nat, t ≤ k ∧ i = .int .i64 t ∧ al = .bool (allN (x.take t)) ∧ Hid (Below W0.heap.size W0 wr)) (fun _ i _ => k - (intOf i).toNat)
    case atStart => exact ⟨0, Nat.zero_le _, rfl, by simp [allN], Lib.hid (Below.refl _ _)⟩
    case round =>
      obtain ⟨t, htk, rfl, rfl, HB⟩ := hrel
      by_cases hlt : t < k
      · have htl : t < x.length := by rw [HK.out]; exact hlt
        have hst := allN_step htl
        obtain ⟨b, off, rfl, -, hc0, hc1⟩ := (S1.out.below HB.out).at t htl
        obtain ⟨⟨z1, z2⟩, hz⟩ : ∃ z, z = x.getD t ([], []) := ⟨_, rfl⟩
        have hsz : smallN (z1, z2) := by rw [hz]; exact SX.out _ (nd_mem htl)
        rw [← hz] at hc0 hc1 hst
        simp only at hc0 hc1
        obtain ⟨q, hq⟩ : ∃ q, allN (x.take t) = q := ⟨_, rfl⟩
        obtain ⟨p, hp⟩ : ∃ p, okN (z1, z2) = p := ⟨_, rfl⟩
        have h1 := fun w => refnmay_any z1 z2 w hsz.1 hsz.2
        rw [hp] at h1
        rw [hq, hp] at hst
        rw [hq]
        have HST := Lib.hid hst
        have htk2 : (t : Int) < (k : Int) := by omega
        clear hz hsz hst hq hp htl
        cases q
        · go_wp2
          go_roundw
          case rel => exact ⟨t + 1, by omega, by go_num, by rw [HST.out]; rfl, HB⟩
          case measure => simp [intOf]; omega
        · have B1 := HB
          go_wp2_with (go_at_call 7; refine (h1 _).mono ?_; rintro e w1 ⟨rfl, hb1⟩; replace B1 := Lib.hid (below_step B1.out hb1); clear hb1 h1)
          go_roundw
          case rel => exact ⟨t + 1, by omega, by go_num, by rw [HST.out]; rfl, B1⟩
          case measure => simp [intOf]; omega
      · have e : t = k := by omega
        subst e
        rw [List.take_of_length_le (by rw [HK.out]; exact Nat.le_refl _), HOX.out]
        have hb1 := HB.out
        replace B := Lib.hid (below_step B.out hb1); replace S1 := Lib.hid (S1.out.below hb1); replace c0 := cell_keep c0 hb1; replace c1 := cell_keep c1 hb1
        clear hb1 HB hlt htk
        have h1 := G1.out; have h2 := G2.out; have h3 := G3.out; have h4 := G4.out; have h5 := G5.out; have h6 := G6.out; have h7 := G7.out
        have h3' := h3
        clear G1 G2 G3 G4 G5 G6 G7
        have hone := check_one (y1, y2)
        rw [HOY.out] at hone
        cases ox
        · have hc := check_all HOX.out
          obtain rfl : cx = false := by rw [← HCX.out]; exact hc
          rw [setNE_no HOX.out] at h1
          rw [chkE_no hc] at h2
          rw [hasNE_no (by rw [hc]; rfl)] at h4
          rw [withNE_no (by rw [hc]; rfl)] at h5
          rw [minusNE_no (by rw [hc]; rfl)] at h6
          clear hc hone
          go_wp2_with (first
        | (go_at_call 8; refine (h1 _ _ S1.out).mono ?_; rintro e w1 ⟨_, _, rfl, -, hb1⟩; replace B := Lib.hid (below_step B.out hb1); replace S1 := Lib.hid (S1.out.below hb1); replace c0 := cell_keep c0 hb1; replace c1 := cell_keep c1 hb1; clear hb1 h1)
        | (go_at_call 9; refine (h2 _ _ S1.out).mono ?_; rintro e w1 ⟨rfl, hb1⟩; replace B := Lib.hid (below_step B.out hb1); replace S1 := Lib.hid (S1.out.below hb1); replace c0 := cell_keep c0 hb1; replace c1 := cell_keep c1 hb1; clear hb1 h2)
        | (go_at_call 10; refine (h3 _ _ S1.out).mono ?_; rintro e w1 ⟨rfl, hb1⟩; replace B := Lib.hid (below_step B.out hb1); replace S1 := Lib.hid (S1.out.below hb1); replace c0 := cell_keep c0 hb1; replace c1 := cell_keep c1 hb1; clear hb1 h3)
        | (go_at_call 13; refine (h4 _ _ S1.out).mono ?_; rintro e w1 ⟨rfl, hb1⟩; replace B := Lib.hid (below_step B.out hb1); replace S1 := Lib.hid (S1.out.below hb1); replace c0 := cell_keep c0 hb1; replace c1 := cell_keep c1 hb1; clear hb1 h4)
        | (go_at_call 14; refine (h5 _ _ S1.out).mono ?_; rintro e w1 ⟨_, _, rfl, -, hb1⟩; replace B := Lib.hid (below_step B.out hb1); replace S1 := Lib.hid (S1.out.below hb1); replace c0 := cell_keep c0 hb1; replace c1 := cell_keep c1 hb1; clear hb1 h5)
        | (go_at_call 15; refine (h6 _ _ S1.out).mono ?_; rintro e w1 ⟨_, _, rfl, -, hb1⟩; replace B := Lib.hid (below_step B.out hb1); replace S1 := Lib.hid (S1.out.below hb1); replace c0 := cell_keep c0 hb1; replace c1 := cell_keep c1 hb1; clear hb1 h6)
        | (go_at_call 10; refine (h3' _ _ S1.out).mono ?_; rintro e w1 ⟨rfl, hb1⟩; replace B := Lib.hid (below_step B.out hb1); replace S1 := Lib.hid (S1.out.below hb1); replace c0 := cell_keep c0 hb1; replace c1 := cell_keep c1 hb1; clear hb1 h3')
        | (go_at_call 16; refine (nawake_any _).mono ?_; rintro e w1 ⟨rfl, hb1⟩; replace B := Lib.hid (below_step B.out hb1); clear hb1))
          go_ret
          exact ⟨rfl, B.out⟩
        · rw [setNE_yes HOX.out] at h1
          have h8 := fun U w h => refnset_any U x w h SX.out (allN_ok HOX.out) (by rw [HK.out]; omega)
          obtain ⟨S, hS⟩ : ∃ S, setN x = S := ⟨_, rfl⟩
          rw [hS] at h1 h8
          have h9 := fun U V w hu hv => nsame_any U V S S w hu hv
          rw [show decide (S = S) = true from decide_eq_true rfl] at h9
          clear hS
          by_cases hall : cx = true ∧ oy = true
          · obtain ⟨rfl, rfl⟩ := hall
            rw [chkE_yes HCX.out] at h2
            rw [hasNE_yes HCX.out HOY.out] at h4
            rw [withNE_yes HCX.out HOY.out] at h5
            rw [minusNE_yes HCX.out hone] at h6
            have h10 := fun U w h => refnhas_any U x y1 y2 w h
            have h11 := fun U w h => refnwith_any U x y1 y2 w h SX.out (allN_ok HOX.out) SY.out.1 SY.out.2 HOY.out (by rw [HK.out]; omega)
            have h12 := fun U V w h h' => refnminus_any U V x [(y1, y2)] w h h' (by rw [HK.out]; omega)
            obtain ⟨o, ho⟩ : ∃ o, hasN x (y1, y2) = o := ⟨_, rfl⟩
            obtain ⟨T, hT⟩ : ∃ T, withN x (y1, y2) = T := ⟨_, rfl⟩
            obtain ⟨Z, hZ⟩ : ∃ Z, minusN x [(y1, y2)] = Z := ⟨_, rfl⟩
            rw [ho] at h4 h10; rw [hT] at h5 h11; rw [hZ] at h6 h12
            have h13 := fun U V w hu hv => nsame_any U V T T w hu hv
            rw [show decide (T = T) = true from decide_eq_true rfl] at h13
            have h14 := fun U V w hu hv => nsame_any U V Z Z w hu hv
            rw [show decide (Z = Z) = true from decide_eq_true rfl] at h14
            clear ho hT hZ hone
            go_upto_region 15 with (first
        | (go_at_call 8; refine (h1 _ _ S1.out).mono ?_; rintro e w1 ⟨aS2, cS2, rfl, hnn, hb1⟩; have S2 := Lib.hid hnn; replace B := Lib.hid (below_step B.out hb1); replace S1 := Lib.hid (S1.out.below hb1); replace c0 := cell_keep c0 hb1; replace c1 := cell_keep c1 hb1; clear hb1 hnn h1)
        | (go_at_call 9; refine (h2 _ _ S1.out).mono ?_; rintro e w1 ⟨rfl, hb1⟩; replace B := Lib.hid (below_step B.out hb1); replace S1 := Lib.hid (S1.out.below hb1); replace c0 := cell_keep c0 hb1; replace c1 := cell_keep c1 hb1; replace S2 := Lib.hid (S2.out.below hb1); clear hb1 h2)
        | (go_at_call 10; refine (h3 _ _ S1.out).mono ?_; rintro e w1 ⟨rfl, hb1⟩; replace B := Lib.hid (below_step B.out hb1); replace S1 := Lib.hid (S1.out.below hb1); replace c0 := cell_keep c0 hb1; replace c1 := cell_keep c1 hb1; replace S2 := Lib.hid (S2.out.below hb1); clear hb1 h3)
        | (go_at_call 12; refine (h8 _ _ S1.out).mono ?_; rintro e w1 ⟨aS3, cS3, rfl, hnn, hb1⟩; have S3 := Lib.hid hnn; replace B := Lib.hid (below_step B.out hb1); replace S1 := Lib.hid (S1.out.below hb1); replace c0 := cell_keep c0 hb1; replace c1 := cell_keep c1 hb1; replace S2 := Lib.hid (S2.out.below hb1); clear hb1 hnn h8)
        | (go_at_call 11; refine (h9 _ _ _ S2.out S3.out).mono ?_; rintro e w1 ⟨rfl, hb1⟩; replace B := Lib.hid (below_step B.out hb1); replace S1 := Lib.hid (S1.out.below hb1); replace c0 := cell_keep c0 hb1; replace c1 := cell_keep c1 hb1; clear hb1 h9)
        | (go_at_call 13; refine (h4 _ _ S1.out).mono ?_; rintro e w1 ⟨rfl, hb1⟩; replace B := Lib.hid (below_step B.out hb1); replace S1 := Lib.hid (S1.out.below hb1); replace c0 := cell_keep c0 hb1; replace c1 := cell_keep c1 hb1; clear hb1 h4)
        | (go_at_call 14; refine (h5 _ _ S1.out).mono ?_; rintro e w1 ⟨aS4, cS4, rfl, hnn, hb1⟩; have S4 := Lib.hid hnn; replace B := Lib.hid (below_step B.out hb1); replace S1 := Lib.hid (S1.out.below hb1); replace c0 := cell_keep c0 hb1; replace c1 := cell_keep c1 hb1; clear hb1 hnn h5)
        | (go_at_call 15; refine (h6 _ _ S1.out).mono ?_; rintro e w1 ⟨aS5, cS5, rfl, hnn, hb1⟩; have S5 := Lib.hid hnn; replace B := Lib.hid (below_step B.out hb1); replace S1 := Lib.hid (S1.out.below hb1); replace c0 := cell_keep c0 hb1; replace c1 := cell_keep c1 hb1; replace S4 := Lib.hid (S4.out.below hb1); clear hb1 hnn h6)
        | (go_at_call 10; refine (h3' _ _ S1.out).mono ?_; rintro e w1 ⟨rfl, hb1⟩; replace B := Lib.hid (below_step B.out hb1); replace S1 := Lib.hid (S1.out.below hb1); replace c0 := cell_keep c0 hb1; replace c1 := cell_keep c1 hb1; replace S4 := Lib.hid (S4.out.below hb1); replace S5 := Lib.hid (S5.out.below hb1); clear hb1 h3')
        | (go_at_call 7; refine (h7 _).mono ?_; rintro e w1 ⟨rfl, hb1⟩; replace B := Lib.hid (below_step B.out hb1); replace S1 := Lib.hid (S1.out.below hb1); replace c0 := cell_keep c0 hb1; replace c1 := cell_keep c1 hb1; replace S4 := Lib.hid (S4.out.below hb1); replace S5 := Lib.hid (S5.out.below hb1); clear hb1 h7))
            cases o
            all_goals
              go_wp2_with (first
        | (go_at_call 17; refine (h10 _ _ S1.out).mono ?_; rintro e w1 ⟨rfl, hb1⟩; replace B := Lib.hid (below_step B.out hb1); replace S1 := Lib.hid (S1.out.below hb1); replace c0 := cell_keep c0 hb1; replace c1 := cell_keep c1 hb1; replace S4 := Lib.hid (S4.out.below hb1); replace S5 := Lib.hid (S5.out.below hb1); clear hb1 h10)
        | (go_at_call 18; refine (h11 _ _ S1.out).mono ?_; rintro e w1 ⟨aS6, cS6, rfl, hnn, hb1⟩; have S6 := Lib.hid hnn; replace B := Lib.hid (below_step B.out hb1); replace S1 := Lib.hid (S1.out.below hb1); replace c0 := cell_keep c0 hb1; replace c1 := cell_keep c1 hb1; replace S4 := Lib.hid (S4.out.below hb1); replace S5 := Lib.hid (S5.out.below hb1); clear hb1 hnn h11)
        | (go_at_call 11; refine (h13 _ _ _ S4.out S6.out).mono ?_; rintro e w1 ⟨rfl, hb1⟩; replace B := Lib.hid (below_step B.out hb1); replace S1 := Lib.hid (S1.out.below hb1); replace c0 := cell_keep c0 hb1; replace c1 := cell_keep c1 hb1; replace S5 := Lib.hid (S5.out.below hb1); clear hb1 h13)
        | (go_at_call 19; refine (h12 _ _ _ (S1.out.below ((Below.refl _ _).alloc (Nat.le_refl _) _)) (nds_one _ y1 y2)).mono ?_; rintro e w1 ⟨a7, c7, rfl, hnn, hb1⟩; have S7 := Lib.hid hnn; replace B := Lib.hid (below_step (B.out.alloc B.out.size _) hb1); replace S5 := Lib.hid ((S5.out.below ((Below.refl _ _).alloc (Nat.le_refl _) _)).below hb1); clear hb1 hnn h12)
        | (go_at_call 11; refine (h14 _ _ _ S5.out S7.out).mono ?_; rintro e w1 ⟨rfl, hb1⟩; replace B := Lib.hid (below_step B.out hb1); clear hb1 h14)
        | (go_at_call 16; refine (nawake_any _).mono ?_; rintro e w1 ⟨rfl, hb1⟩; replace B := Lib.hid (below_step B.out hb1); clear hb1))
              go_ret
              exact ⟨rfl, B.out⟩
          · have hcv : (cx = false ∧ oy = false) ∨ (cx = false ∧ oy = true) ∨ (cx = true ∧ oy = false) := by cases cx <;> cases oy <;> simp_all
            have hno : (checkN x && okN (y1, y2)) = false := by rw [HCX.out, HOY.out]; cases cx <;> cases oy <;> simp_all
            rw [hasNE_no hno] at h4
            rw [withNE_no hno] at h5
            rw [minusNE_no (by rw [check_one]; exact hno)] at h6
            have hce : chkE x = if cx = true then 0 else 1 := by unfold chkE; rw [HCX.out]
            rw [hce] at h2
            clear hno hall hone hce
            rcases hcv with ⟨rfl, rfl⟩ | ⟨rfl, rfl⟩ | ⟨rfl, rfl⟩
            all_goals
              first | replace h2 : ∀ U w, Nds w U x → Calls Tryz.prog 9 #[U] w fun e w' => e = .returned (.int .i64 0) ∧ Below w.heap.size w w' := h2 | replace h2 : ∀ U w, Nds w U x → Calls Tryz.prog 9 #[U] w fun e w' => e = .returned (.int .i64 1) ∧ Below w.heap.size w w' := h2
              go_wp2_with (first
        | (go_at_call 8; refine (h1 _ _ S1.out).mono ?_; rintro e w1 ⟨aS2, cS2, rfl, hnn, hb1⟩; have S2 := Lib.hid hnn; replace B := Lib.hid (below_step B.out hb1); replace S1 := Lib.hid (S1.out.below hb1); replace c0 := cell_keep c0 hb1; replace c1 := cell_keep c1 hb1; clear hb1 hnn h1)
        | (go_at_call 9; refine (h2 _ _ S1.out).mono ?_; rintro e w1 ⟨rfl, hb1⟩; replace B := Lib.hid (below_step B.out hb1); replace S1 := Lib.hid (S1.out.below hb1); replace c0 := cell_keep c0 hb1; replace c1 := cell_keep c1 hb1; replace S2 := Lib.hid (S2.out.below hb1); clear hb1 h2)
        | (go_at_call 10; refine (h3 _ _ S1.out).mono ?_; rintro e w1 ⟨rfl, hb1⟩; replace B := Lib.hid (below_step B.out hb1); replace S1 := Lib.hid (S1.out.below hb1); replace c0 := cell_keep c0 hb1; replace c1 := cell_keep c1 hb1; replace S2 := Lib.hid (S2.out.below hb1); clear hb1 h3)
        | (go_at_call 12; refine (h8 _ _ S1.out).mono ?_; rintro e w1 ⟨aS3, cS3, rfl, hnn, hb1⟩; have S3 := Lib.hid hnn; replace B := Lib.hid (below_step B.out hb1); replace S1 := Lib.hid (S1.out.below hb1); replace c0 := cell_keep c0 hb1; replace c1 := cell_keep c1 hb1; replace S2 := Lib.hid (S2.out.below hb1); clear hb1 hnn h8)
        | (go_at_call 11; refine (h9 _ _ _ S2.out S3.out).mono ?_; rintro e w1 ⟨rfl, hb1⟩; replace B := Lib.hid (below_step B.out hb1); replace S1 := Lib.hid (S1.out.below hb1); replace c0 := cell_keep c0 hb1; replace c1 := cell_keep c1 hb1; clear hb1 h9)
        | (go_at_call 13; refine (h4 _ _ S1.out).mono ?_; rintro e w1 ⟨rfl, hb1⟩; replace B := Lib.hid (below_step B.out hb1); replace S1 := Lib.hid (S1.out.below hb1); replace c0 := cell_keep c0 hb1; replace c1 := cell_keep c1 hb1; clear hb1 h4)
        | (go_at_call 14; refine (h5 _ _ S1.out).mono ?_; rintro e w1 ⟨_, _, rfl, -, hb1⟩; replace B := Lib.hid (below_step B.out hb1); replace S1 := Lib.hid (S1.out.below hb1); replace c0 := cell_keep c0 hb1; replace c1 := cell_keep c1 hb1; clear hb1 h5)
        | (go_at_call 15; refine (h6 _ _ S1.out).mono ?_; rintro e w1 ⟨_, _, rfl, -, hb1⟩; replace B := Lib.hid (below_step B.out hb1); replace S1 := Lib.hid (S1.out.below hb1); replace c0 := cell_keep c0 hb1; replace c1 := cell_keep c1 hb1; clear hb1 h6)
        | (go_at_call 10; refine (h3' _ _ S1.out).mono ?_; rintro e w1 ⟨rfl, hb1⟩; replace B := Lib.hid (below_step B.out hb1); replace S1 := Lib.hid (S1.out.below hb1); replace c0 := cell_keep c0 hb1; replace c1 := cell_keep c1 hb1; clear hb1 h3')
        | (go_at_call 7; refine (h7 _).mono ?_; rintro e w1 ⟨rfl, hb1⟩; replace B := Lib.hid (below_step B.out hb1); replace S1 := Lib.hid (S1.out.below hb1); replace c0 := cell_keep c0 hb1; replace c1 := cell_keep c1 hb1; clear hb1 h7)
        | (go_at_call 16; refine (nawake_any _).mono ?_; rintro e w1 ⟨rfl, hb1⟩; replace B := Lib.hid (below_step B.out hb1); clear hb1))
              go_ret
              exact ⟨rfl, B.out⟩

theorem own : ownKnob Tryz.prog.godebug = none := by kernel_rfl
theorem laidOut : laidOutB Tryz.prog = true := by kernel_rfl

set_option maxRecDepth 100000 in
theorem lifted (os : Os) (started : os.Started) (H : Type) (enc : TypeId × Value → H) :
    ReturnsInHanded {} Tryz.checked os 3 .any (Rows.nodeSetsSpec.pre6 enc Tryz.prog Tryz.f3 Rows.nodeSetsRow.domain false) (Rows.nodeSetsSpec.post enc Tryz.prog Tryz.f3 false true false false) := by
  refine returnsInHanded_of_change (C := Tryz.checked) own started (by kernel_rfl) Tryz.func3
    (ChangeSpec.witness6 (enc := enc) (C := Tryz.checked) false ⟨#[], #[.slice none 0 0, .agg #[.string ByteArray.empty, .string ByteArray.empty]], []⟩ 8 (by kernel_rfl) (by kernel_rfl) (by kernel_rfl) (by kernel_rfl)) ?_
  intro W base args ds gs before hval0 hW hcnd _
  have hval : ∀ (j : Nat) t v, Tryz.f3.params[j]? = some t → args[j]? = some v → Value.okWide Tryz.prog W .any base t v := hval0
  have hW' := hW
  obtain ⟨p, q, hA0, hV, rfl, hfz, hnd⟩ := hW
  have hA : DataW.TrodAll enc Tryz.prog W 0 (fun _ => true) true Tryz.f3.params.toList args.toList ds p := hA0
  rw [Tryz.params3] at hA hval
  obtain ⟨v0, vs0, d0, ds0, p0, q0, hargs, rfl, rfl, h0, r0⟩ := trodAll_cons hA
  obtain ⟨v1, vs1, d1, ds1, p1, q1, rfl, rfl, rfl, h1, r1⟩ := trodAll_cons r0
  obtain ⟨rfl, rfl, rfl⟩ := trodAll_nil r1
  obtain rfl : args = #[v0, v1] := by cases args; simp_all
  obtain ⟨rfl, rfl⟩ := trodVars_none hV
  obtain ⟨a0, len0, cap0, rfl⟩ := okWide_slice Tryz.underlying22 (hval 0 22 v0 rfl rfl)
  have k0 := h0
  have lt0 : ∀ x ∈ p0, x.block < W.heap.size := by obtain ⟨m, hm⟩ := k0; exact DataW.trod_lt m _ _ _ hm
  obtain ⟨z0, w0⟩ : ∃ zs, Nds W (.slice a0 len0 cap0) zs ∧ ∀ n ∈ zs, fitsN n := by
    obtain ⟨fuel, hf⟩ := h0
    exact nds_open (by simpa [Value.cells] using hf)
  have k1 := h1
  have lt1 : ∀ x ∈ p1, x.block < W.heap.size := by obtain ⟨m, hm⟩ := k1; exact DataW.trod_lt m _ _ _ hm
  obtain ⟨z1, w1⟩ := node_open (hval 1 24 v1 rfl rfl) h1
  clear hA0 hval0
  refine (walk _ z0 _ z1 W w0 w1).mono fun e W' ⟨he, bel⟩ => ?_
  subst he
  exact ⟨_, rfl, _, _, _, [], _, [], hW', trodAll_mk1 (shut_bool Tryz.underlying4 _), (trodAll_cons_mk (Below.trod laidOut (by kernel_rfl) (of_decide_eq_true (by kernel_rfl)) k0 bel lt0) (trodAll_cons_mk (Below.trod laidOut (by kernel_rfl) (of_decide_eq_true (by kernel_rfl)) k1 bel lt1) trodAll_mk0)), rfl, bel.frame _, fun h => by cases h⟩

-- the given statement
theorem proved : Rows.NodeSetsSaid :=
  OpenClaim.holds_of_wide 3 Tryz.f3 rfl rfl rfl rfl rfl rfl rfl ⟨rfl, rfl, rfl, rfl, rfl⟩ rfl rfl rfl rfl rfl (by kernel_rfl) Tryz.func3 (by kernel_rfl)
    (of_decide_eq_true (by kernel_rfl)) (by unfold Func.isWrapper; first | (rw [if_pos (by decide +kernel)]; kernel_rfl) | (rw [if_neg (by decide +kernel)]; exact ⟨rfl, rfl⟩))
    (fun os started H enc _ => lifted os started H enc)
end Go.Proofs.YtijhdjdjnolpcaaGreat.nodeSets
