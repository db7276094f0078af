/- Of every two lists of nodes and every node (no more, and no longer, than is looked at): nodes may be put in whatever order; two sets taken out of one another have nothing in common, and leave what is counted; no condition. -/
import Derived.Test.YtijhdjdjnolpcaaRows
import Derived.Test.YtijhdjdjnolpcaaNodR
import Derived.Test.YtijhdjdjnolpcaaNodV
import Derived.ProofKit
import Derived.OpenShut
import Derived.ShutString
import Derived.ChangeOld
namespace Go.Proofs.Ytijhdjdjnolpcaa.nodeUnions
open Go.ChangeShapes Go.WideShapes Go.ChangeAt Go.RowKit
open Go.ChangeMaps (open_string shut_string)
set_option maxRecDepth 100000
set_option linter.unusedVariables false

set_option maxRecDepth 100000 in
set_option maxHeartbeats 6400000 in
theorem walk (U : Value) (l : List Nd) (V : Value) (m : List Nd) (N : Value) (n : Nd) (w : World) (hU : Nds w U l ∧ ∀ n ∈ l, fitsN n) (hV : Nds w V m ∧ ∀ n ∈ m, fitsN n) (hn : N = .agg #[.string (mkB n.1), .string (mkB n.2)] ∧ fitsN n) :
    Calls Try.prog 6 #[U, V, N] w fun e w' => e = .returned (.bool true) ∧ Below w.heap.size w w' := by
  obtain ⟨hU, fU⟩ := hU
  obtain ⟨hV, fV⟩ := hV
  obtain ⟨rfl, fn⟩ := hn
  obtain ⟨ua, uc, rfl, -⟩ := hU.ex
  obtain ⟨va, vc, rfl, -⟩ := hV.ex
  obtain ⟨ll, hll⟩ : ∃ ll, l.length = ll := ⟨_, rfl⟩
  obtain ⟨mm, hmm⟩ : ∃ ll, m.length = ll := ⟨_, rfl⟩
  rw [hll] at hU ⊢; rw [hmm] at hV ⊢
  go_enter Try.func6, Try.ntmps6
  go_upto_region 1 with fail
  obtain ⟨W, hW, hWs, r0, hb⟩ := boxes1 w n
  rw [hW]
  clear hW
  have e1 : ∀ args w, (callFunc 8 args).run Try.prog w = .ok (.enter 8 args) w := enters_of Try.func8 (by kernel_rfl) rfl
  have e3 : ∀ args w, (callFunc 17 args).run Try.prog w = .ok (.enter 17 args) w := enters_of Try.func17 (by kernel_rfl) rfl
  refine lane_run (by kernel_rfl) [[], [0], [], [2], [], [4], [0, 1], [2, 3], [4, 5]] (by kernel_rfl) [18, 19, 20, 21, 22, 23, 0, 1] [none, none, none, none, none, none, none, none, some 0] [.slot 18 (.slice ua ll uc), .row 19 (fewNs l), .slot 20 (.slice va mm vc), .row 21 (fewNs m), .slot 22 (ndV n), .slot 23 (ndV (oneN n)), .row 0 (fewNs l), .row 1 (fewNs m), .cells 0 (oneN n)] [.any, .any, .any, .any, .any, .any, .slot 0 (.slice ua ll uc), .slot 1 (.slice va mm vc), .cells 0 n] (by kernel_rfl) w.heap.size W.heap.size rfl hb rfl ?_ ?_ ?_
  · intro j hj
    have hj2 : j = 0 ∨ j = 1 ∨ j = 2 ∨ j = 3 ∨ j = 4 ∨ j = 5 ∨ j = 6 ∨ j = 7 ∨ j = 8 := by have hj3 : j < 9 := hj; omega
    rcases hj2 with rfl | rfl | rfl | rfl | rfl | rfl | rfl | rfl | rfl
    · exact trivial
    · exact trivial
    · exact trivial
    · exact trivial
    · exact trivial
    · exact trivial
    · exact rfl
    · exact rfl
    · exact r0
  · intro i hi a wx hG hF hE
    have hz : a.tmps.size = 134 := hG.size
    have hi2 : i = 0 ∨ i = 1 ∨ i = 2 ∨ i = 3 ∨ i = 4 ∨ i = 5 ∨ i = 6 ∨ i = 7 ∨ i = 8 := by have hi3 : i < 9 := hi; omega
    clear hi
    rcases hi2 with rfl | rfl | rfl | rfl | rfl | rfl | rfl | rfl | rfl
    · exact lane_move rfl rfl (Or.inl rfl) (hE 6 (by decide) (Or.inr (by decide))) ⟨⟨_, rfl⟩, hG.below, Step1.same _ _ _, put_self _ (by rw [hz]; decide)⟩
    · refine lane_call rfl rfl rfl (hF 0 (by decide)) e3 (nfewo_any _ l wx (hU.below hG.below) fU) ?_
      rintro e w1 ⟨v1, rfl, hr1, hb1⟩
      exact ⟨_, rfl, ⟨_, rfl⟩, hG.below.trans (hb1.mono hG.below.size), Step1.of_below hb1 _ _, v1, put_self _ (by rw [hz]; decide), row_base hr1 hG.new⟩
    · exact lane_move rfl rfl (Or.inl rfl) (hE 7 (by decide) (Or.inr (by decide))) ⟨⟨_, rfl⟩, hG.below, Step1.same _ _ _, put_self _ (by rw [hz]; decide)⟩
    · refine lane_call rfl rfl rfl (hF 2 (by decide)) e3 (nfewo_any _ m wx (hV.below hG.below) fV) ?_
      rintro e w1 ⟨v1, rfl, hr1, hb1⟩
      exact ⟨_, rfl, ⟨_, rfl⟩, hG.below.trans (hb1.mono hG.below.size), Step1.of_below hb1 _ _, v1, put_self _ (by rw [hz]; decide), row_base hr1 hG.new⟩
    · exact lane_load rfl rfl rfl ((hG.slots 5 (by decide)).trans rfl) (hE 8 (by decide) (Or.inr (by decide))) ⟨⟨_, rfl⟩, hG.below, Step1.same _ _ _, put_self _ (by rw [hz]; decide)⟩
    · refine lane_call rfl rfl rfl (hF 4 (by decide)) e1 (one_any n.1 n.2 wx fn.1 fn.2) ?_
      rintro e w1 ⟨rfl, hb1⟩
      exact ⟨_, rfl, ⟨_, rfl⟩, hG.below.trans (hb1.mono hG.below.size), Step1.of_below hb1 _ _, put_self _ (by rw [hz]; decide)⟩
    · obtain ⟨v1, hv1, hr1⟩ := hF 1 (by decide)
      exact lane_move rfl rfl (Or.inr rfl) hv1 ⟨⟨_, rfl⟩, hG.below, Step1.same _ _ _, v1, put_self _ (by rw [hz]; decide), hr1⟩
    · obtain ⟨v1, hv1, hr1⟩ := hF 3 (by decide)
      exact lane_move rfl rfl (Or.inr rfl) hv1 ⟨⟨_, rfl⟩, hG.below, Step1.same _ _ _, v1, put_self _ (by rw [hz]; decide), hr1⟩
    · exact lane_store rfl rfl rfl ((hG.slots 5 (by decide)).trans rfl) (hF 5 (by decide)) (hE 8 (by decide) (Or.inl rfl)) ⟨⟨_, rfl⟩, (hG.below.setCell (Nat.le_add_right _ 0) _).setCell (Nat.le_add_right _ 0) _, Step1.two (B := w.heap.size) (c := 0) wx (by rw [hWs]; omega) _ _, row2_set (hE 8 (by decide) (Or.inl rfl)) _ _⟩
  · intro a wx hG hF
    obtain ⟨v6, fv6, f6⟩ := hF 6 (by decide)
    replace fv6 : a.tmps.getD 0 undef = v6 := eval_slot (s := 0) fv6
    obtain ⟨v7, fv7, f7⟩ := hF 7 (by decide)
    replace fv7 : a.tmps.getD 1 undef = v7 := eval_slot (s := 1) fv7
    have f8 : wx.heap[w.heap.size]? = some (.cells #[.string (mkB (oneN n).1), .string (mkB (oneN n).2)] 23 (0, 0)) := hF 8 (by decide)
    have hbx := hG.below
    have hnx := hG.new
    rw [hG.frame]
    simp only [List.foldl_cons, List.foldl_nil, List.setIfInBounds_toArray, List.set_cons_zero, List.set_cons_succ]
    rw [fv6]
    rw [fv7]
    generalize a.tmps.getD 18 undef = u18
    generalize a.tmps.getD 19 undef = u19
    generalize a.tmps.getD 20 undef = u20
    generalize a.tmps.getD 21 undef = u21
    generalize a.tmps.getD 22 undef = u22
    generalize a.tmps.getD 23 undef = u23
    clear hF hG
    have slx := fewNs_len l; have slz := fewNs_len m
    have smx := fewNs_small l; have smz := fewNs_small m
    have sy := oneN_small n
    obtain ⟨x, hx⟩ : ∃ x, fewNs l = x := ⟨_, rfl⟩
    obtain ⟨z, hz⟩ : ∃ x, fewNs m = x := ⟨_, rfl⟩
    obtain ⟨⟨y1, y2⟩, hy⟩ : ∃ y, oneN n = y := ⟨_, rfl⟩
    rw [hx] at f6 slx smx; rw [hz] at f7 slz smz; rw [hy] at f8 sy
    obtain ⟨xa, xc, rfl, hn1⟩ := ndsO f6
    obtain ⟨za, zc, rfl, hn2⟩ := ndsO f7
    obtain ⟨c0, c1, _, _⟩ := row2 f8
    simp only at c0 c1
    obtain ⟨k, hk⟩ : ∃ k, x.length = k := ⟨_, rfl⟩
    obtain ⟨j, hj⟩ : ∃ k, z.length = k := ⟨_, rfl⟩
    rw [hk] at hn1 slx ⊢; rw [hj] at hn2 slz ⊢
    have B := Lib.hid hbx; have S1 := Lib.hid hn1; have S2 := Lib.hid hn2; have SY := Lib.hid sy; have SX := Lib.hid smx; have SZ := Lib.hid smz; have HK := Lib.hid hk; have HJ := Lib.hid hj
    clear f6 f7 f8 fv6 fv7 r0 hb hWs hnx hx hy hz fU fV fn hU hV hll hmm hbx sy smx smz hn1 hn2 hk hj
    obtain ⟨ox, hox⟩ : ∃ o, checkN x = o := ⟨_, rfl⟩
    obtain ⟨oz, hoz⟩ : ∃ o, checkN z = o := ⟨_, rfl⟩
    obtain ⟨oy, hoy⟩ : ∃ o, okN (y1, y2) = o := ⟨_, rfl⟩
    have h1 := fun U w h => ncheck_e U x w h SX.out
    have h2 := fun U w h => ncheck_e U z w h SZ.out
    have h3 := fun w => nmay_any y1 y2 w SY.out.1 SY.out.2
    rw [hoy] at h3
    cases ox
    · rw [chkE_no hox] at h1
      clear hox hoz hoy
      go_wp2_with (first | (go_at_call 23; refine (h1 _ _ S1.out).mono ?_; rintro e w1 ⟨rfl, hb1⟩; replace B := Lib.hid (below_step B.out hb1); replace S1 := Lib.hid (S1.out.below hb1); replace S2 := Lib.hid (S2.out.below hb1); replace c0 := cell_keep c0 hb1; replace c1 := cell_keep c1 hb1; clear hb1 h1) | (go_at_call 15; refine (nawake_any _).mono ?_; rintro e w1 ⟨rfl, hb1⟩; replace B := Lib.hid (below_step B.out hb1); clear hb1))
      go_ret
      exact ⟨rfl, B.out⟩
    · rw [chkE_yes hox] at h1
      cases oz
      · rw [chkE_no hoz] at h2
        clear hox hoz hoy
        go_wp2_with (first | (go_at_call 23; refine (h1 _ _ S1.out).mono ?_; rintro e w1 ⟨rfl, hb1⟩; replace B := Lib.hid (below_step B.out hb1); replace S1 := Lib.hid (S1.out.below hb1); replace S2 := Lib.hid (S2.out.below hb1); replace c0 := cell_keep c0 hb1; replace c1 := cell_keep c1 hb1; clear hb1 h1) | (go_at_call 23; refine (h2 _ _ S2.out).mono ?_; rintro e w1 ⟨rfl, hb1⟩; replace B := Lib.hid (below_step B.out hb1); replace S1 := Lib.hid (S1.out.below hb1); replace S2 := Lib.hid (S2.out.below hb1); replace c0 := cell_keep c0 hb1; replace c1 := cell_keep c1 hb1; clear hb1 h2) | (go_at_call 15; refine (nawake_any _).mono ?_; rintro e w1 ⟨rfl, hb1⟩; replace B := Lib.hid (below_step B.out hb1); clear hb1))
        go_ret
        exact ⟨rfl, B.out⟩
      · rw [chkE_yes hoz] at h2
        cases oy
        · clear hox hoz hoy
          go_wp2_with (first | (go_at_call 23; refine (h1 _ _ S1.out).mono ?_; rintro e w1 ⟨rfl, hb1⟩; replace B := Lib.hid (below_step B.out hb1); replace S1 := Lib.hid (S1.out.below hb1); replace S2 := Lib.hid (S2.out.below hb1); replace c0 := cell_keep c0 hb1; replace c1 := cell_keep c1 hb1; clear hb1 h1) | (go_at_call 23; refine (h2 _ _ S2.out).mono ?_; rintro e w1 ⟨rfl, hb1⟩; replace B := Lib.hid (below_step B.out hb1); replace S1 := Lib.hid (S1.out.below hb1); replace S2 := Lib.hid (S2.out.below hb1); replace c0 := cell_keep c0 hb1; replace c1 := cell_keep c1 hb1; clear hb1 h2) | (go_at_call 11; refine (h3 _).mono ?_; rintro e w1 ⟨rfl, hb1⟩; replace B := Lib.hid (below_step B.out hb1); replace S1 := Lib.hid (S1.out.below hb1); replace S2 := Lib.hid (S2.out.below hb1); replace c0 := cell_keep c0 hb1; replace c1 := cell_keep c1 hb1; clear hb1 h3) | (go_at_call 15; refine (nawake_any _).mono ?_; rintro e w1 ⟨rfl, hb1⟩; replace B := Lib.hid (below_step B.out hb1); clear hb1))
          go_ret
          exact ⟨rfl, B.out⟩
        · clear hoy
          have h4 := fun U V w h h' => nminus_any U V x z w h h' SX.out SZ.out (by rw [HK.out]; omega) (by rw [HJ.out]; omega)
          have h5 := fun U V w h h' => nminus_any U V z x w h h' SZ.out SX.out (by rw [HJ.out]; omega) (by rw [HK.out]; omega)
          rw [minusNE_yes hox hoz] at h4
          rw [minusNE_yes hoz hox] at h5
          have hout := fun n (h : n ∈ minusN x z) => minus_out h
          have hun := union_len hox hoz
          have hrev := fold_rev hox hoz
          have hla := minusN_len x z
          obtain ⟨A, hA⟩ : ∃ A, minusN x z = A := ⟨_, rfl⟩
          obtain ⟨A2, hA2⟩ : ∃ A, minusN z x = A := ⟨_, rfl⟩
          obtain ⟨R, hR⟩ : ∃ A, setN (z ++ x) = A := ⟨_, rfl⟩
          rw [hA] at h4 hout hun hla; rw [hA2] at h5 hout; rw [hR] at hun hrev
          have h6 := fun U w h => nset_any U (z ++ x) w h (fun n hn => (List.mem_append.1 hn).elim (SZ.out n) (SX.out n)) (by rw [List.length_append, HJ.out, HK.out]; omega)
          rw [setNE_yes (List.all_eq_true.2 (both_ok hox hoz)), hR] at h6
          have h7 := fun U V w hu hv => nsame_any U V R R w hu hv
          rw [show decide (R = R) = true from decide_eq_true rfl] at h7
          have HX := Lib.hid hox; have HZ := Lib.hid hoz; have OUT := Lib.hid hout; have HREV := Lib.hid hrev
          have H6 := Lib.hid h6; have H7 := Lib.hid h7
          obtain ⟨ka, hka⟩ : ∃ ka, A.length = ka := ⟨_, rfl⟩
          obtain ⟨r, hr⟩ : ∃ r, R.length = r := ⟨_, rfl⟩
          rw [hka] at hla hun; rw [hr, HJ.out] at hun
          rw [HK.out] at hla
          have HKA := Lib.hid hka; have HRR := Lib.hid hr
          clear hout hrev hA hA2 hR hox hoz h6 h7 hka hr
          have hsA : ∀ U w, Nds w U A → Nds w U A := fun _ _ h => h
          go_wp2_with (first | (go_at_call 23; refine (h1 _ _ S1.out).mono ?_; rintro e w1 ⟨rfl, hb1⟩; replace B := Lib.hid (below_step B.out hb1); replace S1 := Lib.hid (S1.out.below hb1); replace S2 := Lib.hid (S2.out.below hb1); replace c0 := cell_keep c0 hb1; replace c1 := cell_keep c1 hb1; clear hb1 h1) | (go_at_call 23; refine (h2 _ _ S2.out).mono ?_; rintro e w1 ⟨rfl, hb1⟩; replace B := Lib.hid (below_step B.out hb1); replace S1 := Lib.hid (S1.out.below hb1); replace S2 := Lib.hid (S2.out.below hb1); replace c0 := cell_keep c0 hb1; replace c1 := cell_keep c1 hb1; clear hb1 h2) | (go_at_call 11; refine (h3 _).mono ?_; rintro e w1 ⟨rfl, hb1⟩; replace B := Lib.hid (below_step B.out hb1); replace S1 := Lib.hid (S1.out.below hb1); replace S2 := Lib.hid (S2.out.below hb1); replace c0 := cell_keep c0 hb1; replace c1 := cell_keep c1 hb1; clear hb1 h3) | (go_at_call 22; refine (h4 _ _ _ S1.out S2.out).mono ?_; rintro e w1 ⟨aS3, cS3, rfl, hnn, hb1⟩; have S3 := Lib.hid hnn; replace B := Lib.hid (below_step B.out hb1); replace S1 := Lib.hid (S1.out.below hb1); replace S2 := Lib.hid (S2.out.below hb1); clear hb1 hnn h4) | (go_at_call 22; refine (h5 _ _ _ S2.out S1.out).mono ?_; rintro e w1 ⟨aS4, cS4, rfl, hnn, hb1⟩; have S4 := Lib.hid hnn; replace B := Lib.hid (below_step B.out hb1); replace S1 := Lib.hid (S1.out.below hb1); replace S2 := Lib.hid (S2.out.below hb1); replace S3 := Lib.hid (S3.out.below hb1); clear hb1 hnn h5))
          simp only [HKA.out]
          go_loopw [11] (fun i wr => ∃ t : Nat, t ≤ ka ∧ i = .int .i64 t ∧ Hid (Below w1.heap.size w1 wr)) (fun i _ => ka - (intOf i).toNat)
          case atStart => exact ⟨0, Nat.zero_le _, rfl, Lib.hid (Below.refl _ _)⟩
          case round =>
            obtain ⟨t, htk, rfl, HB⟩ := hrel
            by_cases hlt : t < ka
            · have htl : t < A.length := by rw [HKA.out]; exact hlt
              obtain ⟨b, off, rfl, -, hc0, hc1⟩ := (S3.out.below HB.out).at t htl
              obtain ⟨⟨d1, d2⟩, hd⟩ : ∃ d, d = A.getD t ([], []) := ⟨_, rfl⟩
              have hm := OUT.out (d1, d2) (by rw [hd]; exact nd_mem htl)
              rw [← hd] at hc0 hc1
              simp only at hc0 hc1
              have g1 := fun U w h => refnhas_any U z d1 d2 w h
              have g2 := fun U w h => refnhas_any U A2 d1 d2 w h
              have g3 := fun U w h => refnhas_any U x d1 d2 w h
              rw [hm.1] at g1; rw [hm.2.1] at g2; rw [hm.2.2] at g3
              have htk2 : (t : Int) < (ka : Int) := by omega
              have hb1 := HB.out
              have T1 := Lib.hid (S1.out.below hb1); have T2 := Lib.hid (S2.out.below hb1); have T4 := Lib.hid (S4.out.below hb1); have BB := HB
              clear hd hm htl hb1
              go_wp2_with (first
        | (go_at_call 25; refine (g1 _ _ T2.out).mono ?_; rintro e w1 ⟨rfl, hb1⟩; replace BB := Lib.hid (below_step BB.out hb1); replace T1 := Lib.hid (T1.out.below hb1); replace T2 := Lib.hid (T2.out.below hb1); replace T4 := Lib.hid (T4.out.below hb1); replace hc0 := cell_keep hc0 hb1; replace hc1 := cell_keep hc1 hb1; clear hb1 g1)
        | (go_at_call 25; refine (g2 _ _ T4.out).mono ?_; rintro e w1 ⟨rfl, hb1⟩; replace BB := Lib.hid (below_step BB.out hb1); replace T1 := Lib.hid (T1.out.below hb1); replace T2 := Lib.hid (T2.out.below hb1); replace T4 := Lib.hid (T4.out.below hb1); replace hc0 := cell_keep hc0 hb1; replace hc1 := cell_keep hc1 hb1; clear hb1 g2)
        | (go_at_call 25; refine (g3 _ _ T1.out).mono ?_; rintro e w1 ⟨rfl, hb1⟩; replace BB := Lib.hid (below_step BB.out hb1); replace T1 := Lib.hid (T1.out.below hb1); replace T2 := Lib.hid (T2.out.below hb1); replace T4 := Lib.hid (T4.out.below hb1); replace hc0 := cell_keep hc0 hb1; replace hc1 := cell_keep hc1 hb1; clear hb1 g3))
              go_roundw
              case rel => exact ⟨t + 1, by omega, by go_num, BB⟩
              case measure => simp [intOf]; omega
            · have e : t = ka := by omega
              subst e
              have hb1 := HB.out
              replace B := Lib.hid (below_step B.out hb1); replace S1 := Lib.hid (S1.out.below hb1); replace S2 := Lib.hid (S2.out.below hb1); replace S4 := Lib.hid (S4.out.below hb1)
              clear hb1 HB hlt htk
              obtain ⟨W2, rfl⟩ : ∃ W2 : World, W2 = wr := ⟨_, rfl⟩
              go_wp2
              go_loopw [12, 13, 14, 15] (fun v i _ _ wq => ∃ (t q : Nat) (ao : Option Addr) (co : Nat), t ≤ j ∧ i = .int .i64 ((t : Int) - 1) ∧ v = .slice ao q co ∧ Hid (((z.drop t).reverse.foldl withN x).length = q ∧ Nds wq (.slice ao q co) ((z.drop t).reverse.foldl withN x)) ∧ Hid (Below W2.heap.size W2 wq)) (fun _ i _ _ _ => (intOf i + 1).toNat)
              case atStart => exact ⟨j, k, xa, xc, Nat.le_refl _, by go_num, rfl, Lib.hid (by rw [List.drop_of_length_le (by rw [HJ.out]; exact Nat.le_refl _)]; exact ⟨HK.out, S1.out⟩), Lib.hid (Below.refl _ _)⟩
              case round =>
                obtain ⟨t, q, ao, co, htj, rfl, rfl, HQ, HB⟩ := hrel
                rcases t with _ | t
                · rw [show (((0 : Nat) : Int) - 1) = -1 from rfl]
                  have hq := HQ.out
                  rw [List.drop_zero, HREV.out] at hq
                  obtain ⟨rfl, hnq⟩ := hq
                  have S5 := Lib.hid hnq
                  have hb1 := HB.out
                  replace B := Lib.hid (below_step B.out hb1); replace S1 := Lib.hid (S1.out.below hb1); replace S2 := Lib.hid (S2.out.below hb1)
                  clear hb1 HB HQ hnq
                  obtain ⟨w2, rfl⟩ : ∃ W2 : World, W2 = wr := ⟨_, rfl⟩
                  have hzn : za = none → j = 0 ∧ zc = 0 := by obtain ⟨_, _, hv, p1, _, p3, _⟩ := S2.out.ex; injection hv with e1 e2 e3; subst e1 e3; intro h; have := p3 h; have := HJ.out; omega
                  have hxn : xa = none → k = 0 ∧ xc = 0 := by obtain ⟨_, _, hv, p1, _, p3, _⟩ := S1.out.ex; injection hv with e1 e2 e3; subst e1 e3; intro h; have := p3 h; have := HK.out; omega
                  have hlz := ndsC_len z; have hlx := ndsC_len x
                  rw [HJ.out] at hlz; rw [HK.out] at hlx
                  go_wp2_with (at_builtin; refine wpList_append_src rfl _ _ 37 rfl w2.heap.size 23 (.agg #[.string ByteArray.empty, .string ByteArray.empty]) 2 32 Try.underlying37 Try.info_node rfl (by decide) _  0 [] rfl (World.ownsRow_made w2 #[] 0 (Nat.le_refl _) (by unfold maxLen; omega) rfl) za j zc (ndsC z) rfl hlz hzn (fun ad e => by subst e; exact (S2.out.below ((Below.refl _ _).alloc (Nat.le_refl _) _)).cells) (ndsC_one z) (by omega) (by unfold maxLen; omega) (by simp) ?_)
                  intro v' w3 hown hb1
                  have hb2 : Below w2.heap.size w2 w3 := ((Below.refl w2.heap.size w2).alloc (Nat.le_refl _) _).trans hb1.toBelow
                  replace S1 := Lib.hid (S1.out.below hb2)
                  have hown1 : w3.ownsRow w2.heap.size 23 2 v' j (ndsC z) := by first | exact hown | simpa using hown
                  have HOWN := Lib.hid hown1
                  have HB2 := Lib.hid hb2
                  clear hown hown1 hb1 hb2 hlz hzn
                  go_wp2_with (at_builtin; refine wpList_append_src rfl _ _ 37 rfl w2.heap.size 23 (.agg #[.string ByteArray.empty, .string ByteArray.empty]) 2 32 Try.underlying37 Try.info_node rfl (by decide) _  j (ndsC z) rfl HOWN.out xa k xc (ndsC x) rfl hlx hxn (fun ad e => by subst e; exact S1.out.cells) (ndsC_one x) (by omega) (by unfold maxLen; omega) HB2.out.size ?_)
                  intro v'' w4 hown hb1
                  have hb2 : Below w2.heap.size w2 w4 := HB2.out.trans hb1.toBelow
                  replace S5 := Lib.hid (S5.out.below hb2)
                  have hown2 : w4.ownsRow w2.heap.size 23 2 v'' (z ++ x).length (ndsC (z ++ x)) := by
                    rw [ndsC_app, List.length_append, HJ.out, HK.out]; simpa using hown
                  have hbl : (z ++ x).length = j + k := by rw [List.length_append, HJ.out, HK.out]
                  obtain ⟨ba, bc, rfl, hnb⟩ := ndsO hown2
                  rw [hbl] at hnb ⊢
                  have SB := Lib.hid hnb
                  replace B := Lib.hid (below_step B.out hb2)
                  clear hown hown2 hb1 hb2 hnb HOWN HB2 hlx hxn hbl
                  have h6 := H6.out; have h7 := H7.out
                  have hRl : R.length = t + j := by rw [HRR.out]; exact hun
                  have s5 := S5.out
                  rw [hRl] at h6 s5 ⊢
                  replace S5 := Lib.hid s5
                  clear s5 hRl hun
                  go_wp2_with (first
                    | (go_at_call 18; refine (h6 _ _ SB.out).mono ?_; rintro e w1 ⟨aS6, cS6, rfl, hnn, hb1⟩; have S6 := Lib.hid hnn; replace B := Lib.hid (below_step B.out hb1); replace S5 := Lib.hid (S5.out.below hb1); clear hb1 hnn h6)
                    | (go_at_call 24; refine (h7 _ _ _ S5.out S6.out).mono ?_; rintro e w1 ⟨rfl, hb1⟩; replace B := Lib.hid (below_step B.out hb1); clear hb1 h7)
                    | (go_at_call 15; refine (nawake_any _).mono ?_; rintro e w1 ⟨rfl, hb1⟩; replace B := Lib.hid (below_step B.out hb1); clear hb1))
                  go_ret
                  exact ⟨rfl, B.out⟩
                · rw [show (((t + 1 : Nat) : Int) - 1) = (t : Int) by omega]
                  have htl : t < z.length := by rw [HJ.out]; omega
                  obtain ⟨b, off, rfl, -, hc0, hc1⟩ := (S2.out.below HB.out).at t htl
                  have hst := fold_step htl x
                  obtain ⟨⟨d1, d2⟩, hd⟩ : ∃ y, y = z.getD t ([], []) := ⟨_, rfl⟩
                  have hod : okN (d1, d2) = true := by rw [hd]; exact checkN_ok HZ.out _ (nd_mem htl)
                  have hsd : smallN (d1, d2) := by rw [hd]; exact SZ.out _ (nd_mem htl)
                  rw [← hd] at hc0 hc1 hst
                  simp only at hc0 hc1
                  have hfc := fold_check HX.out HZ.out (t + 1)
                  have hfs := fold_small HX.out HZ.out SX.out SZ.out (t + 1)
                  have hfl := fold_len x z (t + 1)
                  have hft := fold_len x z t
                  rw [HK.out, HJ.out] at hfl hft
                  have hw := fun U w h => nwith_any U ((z.drop (t + 1)).reverse.foldl withN x) d1 d2 w h hfs (by omega) hsd.1 hsd.2
                  rw [withNE_yes hfc hod, ← hst] at hw
                  obtain ⟨F, hF⟩ : ∃ F, (z.drop t).reverse.foldl withN x = F := ⟨_, rfl⟩
                  rw [hF] at hw
                  obtain ⟨q2, hq2⟩ : ∃ q2, F.length = q2 := ⟨_, rfl⟩
                  have HF := Lib.hid hF; have HQ2 := Lib.hid hq2
                  have htk2 : (t : Int) < (j : Int) := by omega
                  simp only [hq2] at hw
                  clear hd hod hsd hst hfc hfs hF hq2
                  go_wp2_with (go_at_call 19; refine (hw _ _ HQ.out.2).mono ?_; rintro e w1 ⟨a1, c1, rfl, hnn, hb1⟩; have SN := Lib.hid hnn; have BN := Lib.hid (below_step HB.out hb1); clear hb1 hnn hw)
                  go_roundw
                  case rel => exact ⟨t, q2, a1, c1, by omega, by go_num, rfl, Lib.hid (by rw [HF.out]; exact ⟨HQ2.out, SN.out⟩), BN⟩
                  case measure => simp [intOf]; try omega

theorem own : ownKnob Try.prog.godebug = none := by kernel_rfl
theorem laidOut : laidOutB Try.prog = true := by kernel_rfl

set_option maxRecDepth 100000 in
theorem lifted (os : Os) (started : os.Started) (H : Type) (enc : TypeId × Value → H) :
    ReturnsInHanded {} Try.checked os 6 .any (Rows.nodeUnionsSpec.pre6 enc Try.prog Try.f6 Rows.nodeUnionsRow.domain false) (Rows.nodeUnionsSpec.post enc Try.prog Try.f6 false true false false) := by
  refine returnsInHanded_of_change (C := Try.checked) own started (by kernel_rfl) Try.func6
    (ChangeSpec.witness6 (enc := enc) (C := Try.checked) false ⟨#[], #[.slice none 0 0, .slice none 0 0, .agg #[.string ByteArray.empty, .string ByteArray.empty]], []⟩ 8 (by kernel_rfl) (by kernel_rfl) (by kernel_rfl) (by kernel_rfl)) ?_
  intro W base args ds gs before hval0 hW hcnd _
  have hval : ∀ (j : Nat) t v, Try.f6.params[j]? = some t → args[j]? = some v → Value.okWide Try.prog W .any base t v := hval0
  have hW' := hW
  obtain ⟨p, q, hA0, hV, rfl, hfz, hnd⟩ := hW
  have hA : DataW.TrodAll enc Try.prog W 0 (fun _ => true) true Try.f6.params.toList args.toList ds p := hA0
  rw [Try.params6] at hA hval
  obtain ⟨v0, vs0, d0, ds0, p0, q0, hargs, rfl, rfl, h0, r0⟩ := trodAll_cons hA
  obtain ⟨v1, vs1, d1, ds1, p1, q1, rfl, rfl, rfl, h1, r1⟩ := trodAll_cons r0
  obtain ⟨v2, vs2, d2, ds2, p2, q2, rfl, rfl, rfl, h2, r2⟩ := trodAll_cons r1
  obtain ⟨rfl, rfl, rfl⟩ := trodAll_nil r2
  obtain rfl : args = #[v0, v1, v2] := by cases args; simp_all
  obtain ⟨rfl, rfl⟩ := trodVars_none hV
  obtain ⟨a0, len0, cap0, rfl⟩ := okWide_slice Try.underlying37 (hval 0 37 v0 rfl rfl)
  have k0 := h0
  have lt0 : ∀ x ∈ p0, x.block < W.heap.size := by obtain ⟨m, hm⟩ := k0; exact DataW.trod_lt m _ _ _ hm
  obtain ⟨z0, w0⟩ : ∃ zs, Nds W (.slice a0 len0 cap0) zs ∧ ∀ n ∈ zs, fitsN n := by
    obtain ⟨fuel, hf⟩ := h0
    exact nds_open (by simpa [Value.cells] using hf)
  obtain ⟨a1, len1, cap1, rfl⟩ := okWide_slice Try.underlying37 (hval 1 37 v1 rfl rfl)
  have k1 := h1
  have lt1 : ∀ x ∈ p1, x.block < W.heap.size := by obtain ⟨m, hm⟩ := k1; exact DataW.trod_lt m _ _ _ hm
  obtain ⟨z1, w1⟩ : ∃ zs, Nds W (.slice a1 len1 cap1) zs ∧ ∀ n ∈ zs, fitsN n := by
    obtain ⟨fuel, hf⟩ := h1
    exact nds_open (by simpa [Value.cells] using hf)
  have k2 := h2
  have lt2 : ∀ x ∈ p2, x.block < W.heap.size := by obtain ⟨m, hm⟩ := k2; exact DataW.trod_lt m _ _ _ hm
  obtain ⟨z2, w2⟩ := node_open (hval 2 23 v2 rfl rfl) h2
  clear hA0 hval0
  refine (walk _ z0 _ z1 _ z2 W w0 w1 w2).mono fun e W' ⟨he, bel⟩ => ?_
  subst he
  exact ⟨_, rfl, _, _, _, [], _, [], hW', trodAll_mk1 (shut_bool Try.underlying4 _), (trodAll_cons_mk (Below.trod laidOut (by kernel_rfl) (of_decide_eq_true (by kernel_rfl)) k0 bel lt0) (trodAll_cons_mk (Below.trod laidOut (by kernel_rfl) (of_decide_eq_true (by kernel_rfl)) k1 bel lt1) (trodAll_cons_mk (Below.trod laidOut (by kernel_rfl) (of_decide_eq_true (by kernel_rfl)) k2 bel lt2) trodAll_mk0))), rfl, bel.frame _, fun h => by cases h⟩

-- the given statement
theorem proved : Rows.NodeUnionsSaid :=
  OpenClaim.holds_of_wide 6 Try.f6 rfl rfl rfl rfl rfl rfl rfl ⟨rfl, rfl, rfl, rfl, rfl⟩ rfl rfl rfl rfl rfl (by kernel_rfl) Try.func6 (by kernel_rfl)
    (of_decide_eq_true (by kernel_rfl)) (by unfold Func.isWrapper; first | (rw [if_pos (by decide +kernel)]; kernel_rfl) | (rw [if_neg (by decide +kernel)]; exact ⟨rfl, rfl⟩))
    (fun os started H enc _ => lifted os started H enc)
end Go.Proofs.Ytijhdjdjnolpcaa.nodeUnions
