/- Of every edges, every graph (no more of them than are looked at): Of, Check and Same answer as the document says, what is reached from the beginning; no condition. -/
import Derived.Test.YtfkbpkjejnpaiaaRows
import Derived.Test.YtfkbpkjejnpaiaaReaV
import Derived.ProofKit
import Derived.OpenShut
import Derived.ShutString
import Derived.ChangeOld
namespace Go.Proofs.Ytfkbpkjejnpaiaa.reachOf
open Go.ChangeShapes Go.WideShapes Go.ChangeAt Go.RowKit
open Go.ChangeMaps (open_string shut_string)
set_option maxRecDepth 100000
set_option linter.unusedVariables false

set_option maxRecDepth 100000 in
set_option maxHeartbeats 6400000 in
theorem walk (U : Value) (l0 : List Ed) (V : Value) (g0 : Gr) (w : World) (hU : Eds w U l0 ∧ ∀ e ∈ l0, fitE e) (hV : GraIn w V g0) :
    Calls Try.prog 3 #[U, V] w fun e w' => e = .returned (.bool true) ∧ Below w.heap.size w w' := by
  obtain ⟨hU, fU⟩ := hU
  obtain ⟨hV, fV⟩ := hV
  obtain ⟨a1, c1, rfl, -⟩ := hU.ex
  obtain ⟨aF, cF, bF, dF, rfl, u1, u2⟩ := hV.ex
  obtain ⟨E0, L0⟩ := g0
  simp only at u1 u2 fV ⊢
  have k1 := fun w h => efewP_any a1 c1 l0 w h
  have k2 := fun w h h' => gfewP_any aF bF cF dF (E0, L0) w h h'
  have hsx := eds_few hU
  have hgf := gra_few u1 u2
  obtain ⟨x, hx⟩ : ∃ x, fewE l0 = x := ⟨_, rfl⟩
  have hxl := fewE_len l0
  have hxf : ∀ e ∈ x, fitE e := by rw [← hx]; exact fun e he => fU e (List.mem_of_mem_take he)
  have hgl := fewG_len (E0, L0)
  obtain ⟨g, hg⟩ : ∃ g, fewG (E0, L0) = g := ⟨_, rfl⟩
  have hfg : ∀ e ∈ g.1, fitE e := by rw [← hg]; exact fun e he => fV e (List.mem_of_mem_take he)
  rw [hx] at k1 hsx hxl
  rw [hg] at k2 hgf hgl
  obtain ⟨nx, hnx⟩ : ∃ n, x.length = n := ⟨_, rfl⟩
  rw [hnx] at k1 hsx hxl
  have ko := fun V w h => gof_any V x w h (by rw [hnx]; omega) hxf
  have kc := fun V w h => gcheck_any V g w h (by have := hgl.1; omega) hfg
  have km := fun V w h => refgmay_any V g w h (by have := hgl.1; omega)
  have kmx := fun V w h => refmay_any V x w h
  obtain ⟨n, hn⟩ : ∃ n, g.1.length = n := ⟨_, rfl⟩
  obtain ⟨m, hm⟩ : ∃ m, g.2.length = m := ⟨_, rfl⟩
  rw [hn, hm] at k2 hgf
  obtain ⟨n1, hn1⟩ : ∃ n, l0.length = n := ⟨_, rfl⟩
  obtain ⟨n0, hn0⟩ : ∃ n, E0.length = n := ⟨_, rfl⟩
  obtain ⟨m0, hm0⟩ : ∃ n, L0.length = n := ⟨_, rfl⟩
  simp only [hn1] at hU k1 ⊢
  simp only [hn0, hm0] at u1 u2 k2 ⊢
  obtain ⟨W, pP, hW, hp, r0, hb⟩ := boxR1 w (.slice aF n0 cF) (.slice bF m0 dF) 25
  have hlp : w.heap.size ≤ pP := by omega
  have SU0 := Lib.hid hU; have SE0 := Lib.hid u1; have SL0 := Lib.hid u2; have K1 := Lib.hid k1; have K2 := Lib.hid k2; have HSX := Lib.hid hsx; have HGF := Lib.hid hgf; have KO := Lib.hid ko; have KC := Lib.hid kc; have KM := Lib.hid km; have KMX := Lib.hid kmx; have HW := Lib.hid hW; have HP := Lib.hid hp; have BB := Lib.hid hb; have RP := Lib.hid r0; have HNX := Lib.hid hnx; have HXF := Lib.hid hxf
  clear hU fU hV fV u1 u2 k1 k2 hsx hgf hx hxf hg hfg hgl ko kc km kmx hn hm hn1 hn0 hm0 hW hp hb r0 hnx
  have e1 : ∀ args w, (callFunc 10 args).run Try.prog w = .ok (.enter 10 args) w := enters_of Try.func10 (by kernel_rfl) rfl
  have e2 : ∀ args w, (callFunc 11 args).run Try.prog w = .ok (.enter 11 args) w := enters_of Try.func11 (by kernel_rfl) rfl
  have e3 : ∀ args w, (callFunc 13 args).run Try.prog w = .ok (.enter 13 args) w := enters_of Try.func13 (by kernel_rfl) rfl
  have e4 : ∀ args w, (callFunc 14 args).run Try.prog w = .ok (.enter 14 args) w := enters_of Try.func14 (by kernel_rfl) rfl
  have e5 : ∀ args w, (callFunc 15 args).run Try.prog w = .ok (.enter 15 args) w := enters_of Try.func15 (by kernel_rfl) rfl
  have e6 : ∀ args w, (callFunc 16 args).run Try.prog w = .ok (.enter 16 args) w := enters_of Try.func16 (by kernel_rfl) rfl
  have e7 : ∀ args w, (callFunc 19 args).run Try.prog w = .ok (.enter 19 args) w := enters_of Try.func19 (by kernel_rfl) rfl
  have e8 : ∀ args w, (callFunc 18 args).run Try.prog w = .ok (.enter 18 args) w := enters_of Try.func18 (by kernel_rfl) rfl
  go_enter Try.func3, Try.ntmps3
  go_upto_region 1 with fail
  rw [HW.out, HP.out]
  refine rol_run (by kernel_rfl) [[], [0], [], [0, 1, 2], [0, 1, 2, 3], [0, 1, 2, 3, 4]] (by kernel_rfl) [7, 8, 9, 10, 0] [[7], [0], [6], [2], [1], [3, 6]] [0, 0, 0, 0, 0, 2, 2, 0] [0, 0, 0, 0, 0, 2] [1000, 1000, 1000, 1000, 1000, 1000, 5, 4] [.val 7 (.slice a1 n1 c1), .val 8 (.slice a1 nx c1), .val 9 (.agg #[.slice aF n0 cF, .slice bF m0 dF]), .val 10 (.agg #[.slice aF n cF, .slice bF m dF]), .val 0 (.slice a1 nx c1), .box (pP) (.cells #[.slice aF n cF, .slice bF m dF] 25), .box (pP) (.cells #[.slice aF n0 cF, .slice bF m0 dF] 25), .val 0 (.slice a1 n1 c1)] (by kernel_rfl) ?_ (w.heap.size) (W.heap.size) rfl BB.out rfl (fun k => if k = pP then 2 else 3) ?_ ?_ ?_
  · intro j hj
    have hj3 : j < 8 := hj
    have hj2 : j = 0 ∨ j = 1 ∨ j = 2 ∨ j = 3 ∨ j = 4 ∨ j = 5 ∨ j = 6 ∨ j = 7 := by omega
    clear hj hj3
    rcases hj2 with rfl | rfl | rfl | rfl | rfl | rfl | rfl | rfl
    · exact trivial
    · exact trivial
    · exact trivial
    · exact trivial
    · exact trivial
    · exact trivial
    · exact trivial
    · exact trivial
  · intro j hj0 hj
    have hj1 : 6 ≤ j := hj0
    have hj3 : j < 8 := hj
    have hj2 : j = 6 ∨ j = 7 := by omega
    clear hj0 hj hj1 hj3
    rcases hj2 with rfl | rfl
    · exact ⟨RP.out, if_pos rfl⟩
    · exact rfl
  · intro i hi a wx who hG hF
    have hz : a.tmps.size = 62 := hG.size
    have hi3 : i < 6 := hi
    have hi2 : i = 0 ∨ i = 1 ∨ i = 2 ∨ i = 3 ∨ i = 4 ∨ i = 5 := by omega
    clear hi hi3
    rcases hi2 with rfl | rfl | rfl | rfl | rfl | rfl
    · exact rol_val rfl rfl rfl (by rw [hz]; decide) (ex_move (Or.inl rfl) (eval_slot (hF 7 (by decide)))) hG.below
    · refine rol_calls rfl rfl rfl (by rw [hz]; decide) (ex_call rfl (by simp [eval_slot (hF 0 (by decide))]) e1) (K1.out wx (SU0.out.below hG.below)) ?_ hG.below (Nat.le_trans BB.out.size hG.new)
      rintro e w1 ⟨rfl, rfl⟩
      exact ⟨_, rfl, Below.refl _ _, .inl rfl⟩
    · exact rol_val rfl rfl rfl (by rw [hz]; decide) (ex_load rfl (eval_slot ((hG.slots 3 (by decide)).trans rfl)) (ld_gra (row2 (hF 6 (by decide)).1).1 (row2 (hF 6 (by decide)).1).2.1)) hG.below
    · refine rol_calls rfl rfl rfl (by rw [hz]; decide) (ex_call rfl (by simp [eval_slot (hF 2 (by decide))]) e2) (K2.out wx (SE0.out.below hG.below) (SL0.out.belowB hG.below)) ?_ hG.below (Nat.le_trans BB.out.size hG.new)
      rintro e w1 ⟨rfl, hb1⟩
      exact ⟨_, rfl, hb1, .inl rfl⟩
    · exact rol_val rfl rfl rfl (by rw [hz]; decide) (ex_move (Or.inr rfl) (eval_slot (hF 1 (by decide)))) hG.below
    · exact rol_boxVR rfl rfl rfl rfl (eval_slot ((hG.slots 3 (by decide)).trans rfl)) (eval_slot (hF 3 (by decide))) (hF 6 (by decide)) hG.below hlp
  · intro a wx who hG hF
    have fv0 : a.tmps.getD 0 undef = .slice a1 nx c1 := eval_slot (s := 0) (hF 4 (of_decide_eq_true (by kernel_rfl)) (of_decide_eq_true (by kernel_rfl)))
    have hbox := hF 5 (of_decide_eq_true (by kernel_rfl)) (of_decide_eq_true (by kernel_rfl))
    have hbx := hG.below
    have hnx := hG.new
    rw [hG.frame]
    simp only [List.foldl_cons, List.foldl_nil, List.setIfInBounds_toArray, List.set_cons_zero, List.set_cons_succ]
    generalize a.tmps.getD 7 undef = u7
    generalize a.tmps.getD 8 undef = u8
    generalize a.tmps.getD 9 undef = u9
    generalize a.tmps.getD 10 undef = u10
    rw [fv0]
    clear hF hG fv0
    replace BB := Lib.hid hbx; have SX := Lib.hid (HSX.out.below hbx); have GF := Lib.hid (HGF.out.below hbx); replace RP := Lib.hid hbox.1
    clear hbx hbox hnx SU0 SE0 SL0 K1 K2 HSX HGF e1 e2
    obtain ⟨p0, p1, -, -⟩ := row2 RP.out
    obtain ⟨w2, hw2⟩ : ∃ r, r = wx := ⟨_, rfl⟩
    subst hw2
    obtain ⟨ox, hox⟩ : ∃ o, okE x = o := ⟨_, rfl⟩
    rw [hox] at KMX
    obtain ⟨og, hog⟩ : ∃ o, okG g = o := ⟨_, rfl⟩
    rw [hog] at KM
    obtain ⟨KG, hKG⟩ : ∃ k, gchk g = k := ⟨_, rfl⟩
    rw [hKG] at KC
    have hkg : KG = if og then 0 else 1 := by rw [← hKG, ← hog]; rfl
    have HKG := Lib.hid hkg
    clear hog hKG hkg
    obtain ⟨GE, hGE⟩ : ∃ r, gOf x = r := ⟨_, rfl⟩
    obtain ⟨KX, hKX⟩ : ∃ r, chkE x = r := ⟨_, rfl⟩
    rw [hGE, hKX] at KO
    obtain ⟨E, Lv⟩ := GE
    simp only at KO
    obtain ⟨ne, hne⟩ : ∃ n, E.length = n := ⟨_, rfl⟩
    obtain ⟨me, hme⟩ : ∃ n, Lv.length = n := ⟨_, rfl⟩
    have HNE := Lib.hid hne; have HME := Lib.hid hme; have HGE := Lib.hid hGE; have HKX := Lib.hid hKX; have HOX := Lib.hid hox
    have ks := fun U V w h h' => gsame_any U V (E, Lv) g w h h'
    have kr := fun U V w h h' => refgsame_any U V (E, Lv) g w h h'
    obtain ⟨RS, hRS⟩ : ∃ r, decide ((E, Lv) = g) = r := ⟨_, rfl⟩
    rw [hRS] at ks kr
    have KS := Lib.hid ks; have KR := Lib.hid kr
    clear hne hme hGE hKX hox ks kr hRS
    go_upto_region 3 with (go_at_call 12; refine (KO.out _ _ SX.out).mono ?_; rintro e w1 ⟨v1, rfl, hg1, hb1⟩; obtain ⟨aX, cX, bX, dX, rfl, hG1⟩ := hg1.lens (n := ne) (m := me) HNE.out HME.out; replace p0 := cell_keep p0 hb1; replace p1 := cell_keep p1 hb1; replace RP := Lib.hid (row_keepB RP.out hb1); replace GF := Lib.hid (GF.out.below hb1); replace SX := Lib.hid (SX.out.below hb1); replace BB := Lib.hid (below_step BB.out hb1); have GX := Lib.hid hG1; clear hg1 hG1 hb1 KO)
    obtain ⟨WX, pX, hW2, hp2, hr2, hb1⟩ := boxR1 w1 (.slice aX ne cX) (.slice bX me dX) 25
    rw [hW2, hp2]
    have LX := Lib.hid (show w.heap.size ≤ pX from by rw [← hp2]; exact BB.out.size)
    replace p0 := cell_keep p0 hb1
    replace p1 := cell_keep p1 hb1
    replace RP := Lib.hid (row_keepB RP.out hb1)
    replace GF := Lib.hid (GF.out.below hb1)
    replace GX := Lib.hid (GX.out.below hb1)
    replace SX := Lib.hid (SX.out.below hb1)
    replace BB := Lib.hid (below_step BB.out hb1)
    obtain ⟨x0, x1, -, -⟩ := row2 hr2
    have RX := Lib.hid hr2
    clear hW2 hp2 hr2 hb1
    obtain ⟨w3, hw3⟩ : ∃ r, r = WX := ⟨_, rfl⟩
    subst hw3
    refine rol_run (by kernel_rfl) [[], [0], [0, 1], [], [0, 1, 3], [0, 1, 2, 3, 4], [0, 1, 2, 3, 4, 5], [0, 1, 2, 3, 4, 5, 6], [0, 1, 2, 3, 4, 5, 6], [0, 1, 2, 3, 4, 5, 6, 7, 8], [0, 1, 2, 3, 4, 5, 6], [0, 1, 2, 3, 4, 5, 6], [0, 1, 2, 3, 4, 5, 6, 7, 8, 9, 10, 11], [0, 1, 2, 3, 4, 5, 6, 7, 8, 9, 10, 11, 12], [0, 1, 2, 3, 4, 5, 6, 7, 8, 9, 10, 11, 12, 13]] (by kernel_rfl) [16, 17, 18, 19, 20, 21, 22, 23, 24, 25, 26, 27, 28, 29, 30] [[15], [0], [1], [15], [3], [2, 4], [5], [6, 16], [6, 15], [6, 7, 8], [6, 16], [6, 15], [6, 10, 11], [6, 9, 12], [6, 13]] [0, 0, 0, 0, 0, 0, 0, 0, 0, 0, 0, 0, 0, 0, 0, 3, 3] [0, 0, 0, 0, 0, 0, 0, 0, 0, 0, 0, 0, 0, 0, 0] [1000, 1000, 1000, 1000, 1000, 1000, 1000, 1000, 1000, 1000, 1000, 1000, 1000, 1000, 1000, 1000, 1000] [.val 16 (.agg #[.slice aF n cF, .slice bF m dF]), .val 17 (.int .i64 KG), .val 18 (.bool og), .val 19 (.agg #[.slice aF n cF, .slice bF m dF]), .val 20 (.bool og), .val 21 (.bool false), .val 22 (.bool false), .val 23 (.agg #[.slice aX ne cX, .slice bX me dX]), .val 24 (.agg #[.slice aF n cF, .slice bF m dF]), .val 25 (.bool RS), .val 26 (.agg #[.slice aX ne cX, .slice bX me dX]), .val 27 (.agg #[.slice aF n cF, .slice bF m dF]), .val 28 (.bool RS), .val 29 (.bool false), .val 30 (.bool false), .box (pP) (.cells #[.slice aF n cF, .slice bF m dF] 25), .box (pX) (.cells #[.slice aX ne cX, .slice bX me dX] 25)] (by kernel_rfl) ?_ (w3.heap.size) (w3.heap.size) rfl (Below.refl _ _) rfl (fun _ => 3) ?_ ?_ ?_
    · intro j hj
      have hj3 : j < 17 := hj
      have hj2 : j = 0 ∨ j = 1 ∨ j = 2 ∨ j = 3 ∨ j = 4 ∨ j = 5 ∨ j = 6 ∨ j = 7 ∨ j = 8 ∨ j = 9 ∨ j = 10 ∨ j = 11 ∨ j = 12 ∨ j = 13 ∨ j = 14 ∨ j = 15 ∨ j = 16 := by omega
      clear hj hj3
      rcases hj2 with rfl | rfl | rfl | rfl | rfl | rfl | rfl | rfl | rfl | rfl | rfl | rfl | rfl | rfl | rfl | rfl | rfl
      · exact trivial
      · exact trivial
      · exact trivial
      · exact trivial
      · exact trivial
      · exact trivial
      · exact trivial
      · exact trivial
      · exact trivial
      · exact trivial
      · exact trivial
      · exact trivial
      · exact trivial
      · exact trivial
      · exact trivial
      · exact trivial
      · exact trivial
    · intro j hj0 hj
      have hj1 : 15 ≤ j := hj0
      have hj3 : j < 17 := hj
      have hj2 : j = 15 ∨ j = 16 := by omega
      clear hj0 hj hj1 hj3
      rcases hj2 with rfl | rfl
      · exact ⟨RP.out, rfl⟩
      · exact ⟨RX.out, rfl⟩
    · intro i hi a wx who hG hF
      have hz : a.tmps.size = 62 := hG.size
      have hi3 : i < 15 := hi
      have hi2 : i = 0 ∨ i = 1 ∨ i = 2 ∨ i = 3 ∨ i = 4 ∨ i = 5 ∨ i = 6 ∨ i = 7 ∨ i = 8 ∨ i = 9 ∨ i = 10 ∨ i = 11 ∨ i = 12 ∨ i = 13 ∨ i = 14 := by omega
      clear hi hi3
      rcases hi2 with rfl | rfl | rfl | rfl | rfl | rfl | rfl | rfl | rfl | rfl | rfl | rfl | rfl | rfl | rfl
      · exact rol_val rfl rfl rfl (by rw [hz]; decide) (ex_load rfl (eval_slot ((hG.slots 3 (by decide)).trans rfl)) (ld_gra (row2 (hF 15 (by decide)).1).1 (row2 (hF 15 (by decide)).1).2.1)) hG.below
      · refine rol_calls rfl rfl rfl (by rw [hz]; decide) (ex_call rfl (by simp [eval_slot (hF 0 (by decide))]) e3) (KC.out _ wx (GF.out.below hG.below)) ?_ hG.below hG.new
        rintro e w1 ⟨rfl, hb1⟩
        exact ⟨_, rfl, hb1, .inl rfl⟩
      · exact rol_val rfl rfl rfl (by rw [hz]; decide) (ex_bin rfl (eval_slot (hF 1 (by decide))) rfl (by go_simp) (eq_chkR HKG.out wx)) hG.below
      · exact rol_val rfl rfl rfl (by rw [hz]; decide) (ex_load rfl (eval_slot ((hG.slots 3 (by decide)).trans rfl)) (ld_gra (row2 (hF 15 (by decide)).1).1 (row2 (hF 15 (by decide)).1).2.1)) hG.below
      · refine rol_calls rfl rfl rfl (by rw [hz]; decide) (ex_call rfl (by simp [eval_slot (hF 3 (by decide))]) e4) (KM.out _ wx (GF.out.below hG.below)) ?_ hG.below hG.new
        rintro e w1 ⟨rfl, hb1⟩
        exact ⟨_, rfl, hb1, .inl rfl⟩
      · exact rol_val rfl rfl rfl (by rw [hz]; decide) (ex_bin rfl (eval_slot (hF 2 (by decide))) (eval_slot (hF 4 (by decide))) (by go_simp) (ne_boolR og wx)) hG.below
      · exact rol_val rfl rfl rfl (by rw [hz]; decide) (ex_move (Or.inl rfl) (eval_slot (hF 5 (by decide)))) hG.below
      · exact rol_val rfl (want_yes rfl rfl (hF 6 (by decide))) rfl (by rw [hz]; decide) (ex_load rfl (eval_slot ((hG.slots 5 (by decide)).trans rfl)) (ld_gra (row2 (hF 16 (by decide)).1).1 (row2 (hF 16 (by decide)).1).2.1)) hG.below
      · exact rol_val rfl (want_yes rfl rfl (hF 6 (by decide))) rfl (by rw [hz]; decide) (ex_load rfl (eval_slot ((hG.slots 3 (by decide)).trans rfl)) (ld_gra (row2 (hF 15 (by decide)).1).1 (row2 (hF 15 (by decide)).1).2.1)) hG.below
      · refine rol_calls rfl (want_yes rfl rfl (hF 6 (by decide))) rfl (by rw [hz]; decide) (ex_call rfl (by simp [eval_slot (hF 7 (by decide)), eval_slot (hF 8 (by decide))]) e5) (KS.out _ _ wx (GX.out.below hG.below) (GF.out.below hG.below)) ?_ hG.below hG.new
        rintro e w1 ⟨rfl, hb1⟩
        exact ⟨_, rfl, hb1, .inl rfl⟩
      · exact rol_val rfl (want_yes rfl rfl (hF 6 (by decide))) rfl (by rw [hz]; decide) (ex_load rfl (eval_slot ((hG.slots 5 (by decide)).trans rfl)) (ld_gra (row2 (hF 16 (by decide)).1).1 (row2 (hF 16 (by decide)).1).2.1)) hG.below
      · exact rol_val rfl (want_yes rfl rfl (hF 6 (by decide))) rfl (by rw [hz]; decide) (ex_load rfl (eval_slot ((hG.slots 3 (by decide)).trans rfl)) (ld_gra (row2 (hF 15 (by decide)).1).1 (row2 (hF 15 (by decide)).1).2.1)) hG.below
      · refine rol_calls rfl (want_yes rfl rfl (hF 6 (by decide))) rfl (by rw [hz]; decide) (ex_call rfl (by simp [eval_slot (hF 10 (by decide)), eval_slot (hF 11 (by decide))]) e6) (KR.out _ _ wx (GX.out.below hG.below) (GF.out.below hG.below)) ?_ hG.below hG.new
        rintro e w1 ⟨rfl, hb1⟩
        exact ⟨_, rfl, hb1, .inl rfl⟩
      · exact rol_val rfl (want_yes rfl rfl (hF 6 (by decide))) rfl (by rw [hz]; decide) (ex_bin rfl (eval_slot (hF 9 (by decide))) (eval_slot (hF 12 (by decide))) (by go_simp) (ne_boolR RS wx)) hG.below
      · exact rol_val rfl rfl rfl (by rw [hz]; decide) (ex_pick_no rfl (eval_slot (hF 6 (by decide))) (eval_slot (hF 13 (by decide)))) hG.below
    · intro a wx who hG hF
      have fv30 : a.tmps.getD 30 undef = .bool false := eval_slot (s := 30) (hF 14 (of_decide_eq_true (by kernel_rfl)) (of_decide_eq_true (by kernel_rfl)))
      have hbx := hG.below
      have hnx := hG.new
      rw [hG.frame]
      simp only [List.foldl_cons, List.foldl_nil, List.setIfInBounds_toArray, List.set_cons_zero, List.set_cons_succ]
      generalize a.tmps.getD 16 undef = u16
      generalize a.tmps.getD 17 undef = u17
      generalize a.tmps.getD 18 undef = u18
      generalize a.tmps.getD 19 undef = u19
      generalize a.tmps.getD 20 undef = u20
      generalize a.tmps.getD 21 undef = u21
      generalize a.tmps.getD 22 undef = u22
      generalize a.tmps.getD 23 undef = u23
      generalize a.tmps.getD 24 undef = u24
      generalize a.tmps.getD 25 undef = u25
      generalize a.tmps.getD 26 undef = u26
      generalize a.tmps.getD 27 undef = u27
      generalize a.tmps.getD 28 undef = u28
      generalize a.tmps.getD 29 undef = u29
      rw [fv30]
      clear hF hG fv30
      replace p0 := cell_keep p0 hbx
      replace p1 := cell_keep p1 hbx
      replace x0 := cell_keep x0 hbx
      replace x1 := cell_keep x1 hbx
      replace RP := Lib.hid (row_keepB RP.out hbx)
      replace RX := Lib.hid (row_keepB RX.out hbx)
      replace GF := Lib.hid (GF.out.below hbx)
      replace GX := Lib.hid (GX.out.below hbx)
      replace SX := Lib.hid (SX.out.below hbx)
      replace BB := Lib.hid (below_step BB.out hbx)
      clear hbx hnx KC KM KS KR e3 e4 e5
      obtain ⟨w5, hw5⟩ : ∃ r, r = wx := ⟨_, rfl⟩
      subst hw5
      cases ox
      · have hz := HGE.out
        rw [gOf_no HOX.out] at hz
        injection hz with hz1 hz2
        subst hz1 hz2
        have hk1 : KX = 1 := by have := HKX.out; unfold chkE at this; rw [HOX.out] at this; exact this.symm
        subst hk1
        have kz := fun V w h => refgsame_any V (.agg #[.slice none 0 0, .slice none 0 0]) ([], []) ([], []) w h (gra_none w)
        simp only [decide_true] at kz
        have KZ := Lib.hid kz
        clear kz
        go_upto_region 6 with (go_at_call 17; refine (KMX.out _ _ SX.out).mono ?_; rintro e w9 ⟨rfl, hb1⟩; replace p0 := cell_keep p0 hb1; replace p1 := cell_keep p1 hb1; replace x0 := cell_keep x0 hb1; replace x1 := cell_keep x1 hb1; replace RP := Lib.hid (row_keepB RP.out hb1); replace RX := Lib.hid (row_keepB RX.out hb1); replace GF := Lib.hid (GF.out.below hb1); replace GX := Lib.hid (GX.out.below hb1); replace SX := Lib.hid (SX.out.below hb1); replace BB := Lib.hid (below_step BB.out hb1); clear hb1 )
        go_wp2_with (first
            | (go_at_call 16; refine (KZ.out _ _ GX.out).mono ?_; rintro e w9 ⟨rfl, hb1⟩; replace p0 := cell_keep p0 hb1; replace p1 := cell_keep p1 hb1; replace x0 := cell_keep x0 hb1; replace x1 := cell_keep x1 hb1; replace RP := Lib.hid (row_keepB RP.out hb1); replace RX := Lib.hid (row_keepB RX.out hb1); replace GF := Lib.hid (GF.out.below hb1); replace GX := Lib.hid (GX.out.below hb1); replace SX := Lib.hid (SX.out.below hb1); replace BB := Lib.hid (below_step BB.out hb1); clear hb1 )
            | (go_at_call 18; refine (gawake_any _).mono ?_; rintro e w9 ⟨rfl, hb1⟩; replace p0 := cell_keep p0 hb1; replace p1 := cell_keep p1 hb1; replace x0 := cell_keep x0 hb1; replace x1 := cell_keep x1 hb1; replace RP := Lib.hid (row_keepB RP.out hb1); replace RX := Lib.hid (row_keepB RX.out hb1); replace GF := Lib.hid (GF.out.below hb1); replace GX := Lib.hid (GX.out.below hb1); replace SX := Lib.hid (SX.out.below hb1); replace BB := Lib.hid (below_step BB.out hb1); clear hb1))
        go_ret
        exact ⟨rfl, BB.out⟩
      · have hz := HGE.out
        rw [gOf_ok HOX.out] at hz
        injection hz with hz1 hz2
        subst hz1
        have hk1 : KX = 0 := by have := HKX.out; unfold chkE at this; rw [HOX.out] at this; exact this.symm
        subst hk1
        have klv := fun V w h => reflive_any V x w h HOX.out (by rw [HNX.out]; omega)
        have kss := fun U V w h h' => refgsame_any U V (x, Lv) (x, Lv) w h h'
        simp only [decide_true] at kss
        have kcx := fun V w h => gcheck_any V (x, Lv) w h (show x.length ≤ 200 by rw [HNX.out]; omega) HXF.out
        have hgx : gchk (x, Lv) = 0 := by unfold gchk; rw [if_pos (okG_iff.2 ⟨HOX.out, hz2.symm⟩)]
        rw [hgx] at kcx
        rw [hz2] at klv
        have KLV := Lib.hid klv; have KSS := Lib.hid kss; have KCX := Lib.hid kcx
        clear klv kss kcx hgx hz2
        have e3 : ∀ args w, (callFunc 13 args).run Try.prog w = .ok (.enter 13 args) w := enters_of Try.func13 (by kernel_rfl) rfl
        go_upto_region 7 with (go_at_call 17; refine (KMX.out _ _ SX.out).mono ?_; rintro e w6 ⟨rfl, hb1⟩; replace p0 := cell_keep p0 hb1; replace p1 := cell_keep p1 hb1; replace x0 := cell_keep x0 hb1; replace x1 := cell_keep x1 hb1; replace RP := Lib.hid (row_keepB RP.out hb1); replace RX := Lib.hid (row_keepB RX.out hb1); replace GF := Lib.hid (GF.out.below hb1); replace GX := Lib.hid (GX.out.below hb1); replace SX := Lib.hid (SX.out.below hb1); replace BB := Lib.hid (below_step BB.out hb1); clear hb1 )
        refine rol_run (by kernel_rfl) [[], [], [], [2], [1, 2, 3], [0, 1, 2, 3, 4], [0, 1, 2, 3, 4, 5], [0, 1, 2, 3, 4, 5, 6], [0, 1, 2, 3, 4, 5, 6, 7], [0, 1, 2, 3, 4, 5, 6, 7, 8], [0, 1, 2, 3, 4, 5, 6, 7, 8, 9], [0, 1, 2, 3, 4, 5, 6, 7, 8, 9, 10], [0, 1, 2, 3, 4, 5, 6, 7, 8, 9, 10, 11], [0, 1, 2, 3, 4, 5, 6, 7, 8, 9, 10, 11, 12], [0, 1, 2, 3, 4, 5, 6, 7, 8, 9, 10, 11, 12, 13], [0, 1, 2, 3, 4, 5, 6, 7, 8, 9, 10, 11, 12, 13, 14], [0, 1, 2, 3, 4, 5, 6, 7, 8, 9, 10, 11, 12, 13, 14, 15], [0, 1, 2, 3, 4, 5, 6, 7, 8, 9, 10, 11, 12, 13, 14, 15, 16], [0, 1, 2, 3, 4, 5, 6, 7, 8, 9, 10, 11, 12, 13, 14, 15, 16, 17]] (by kernel_rfl) [44, 45, 46, 47, 48, 49, 50, 51, 52, 53, 54, 55, 56, 57, 58, 59, 60, 61, 4] [[19], [], [], [2], [1, 3], [0, 4], [5], [6], [6, 7], [6, 8], [9], [10, 19], [10, 11], [10, 12], [10, 13], [14], [15], [15, 16], [17]] [0, 0, 0, 1, 1, 0, 0, 0, 0, 0, 0, 0, 0, 0, 0, 0, 0, 0, 0, 3] [0, 0, 0, 0, 0, 0, 0, 0, 0, 0, 0, 0, 0, 0, 0, 0, 0, 0, 0] [1000, 1000, 1000, 1000, 1000, 1000, 1000, 1000, 1000, 1000, 1000, 1000, 1000, 1000, 1000, 1000, 1000, 1000, 1000, 1000] [.val 44 (.agg #[.slice aX ne cX, .slice bX me dX]), .val 45 (.slice a1 nx c1), .val 46 (.slice a1 nx c1), .mem 47 (rowR w6.heap.size 3 1 Lv.length (intZ Lv)), .mems 48 (graQ a1 nx c1 w6.heap.size Lv), .val 49 (.bool true), .val 50 (.bool true), .val 51 (.int .i64 0), .val 52 (.bool true), .val 53 (.bool true), .val 54 (.bool true), .val 55 (.agg #[.slice aX ne cX, .slice bX me dX]), .val 56 (.int .i64 0), .val 57 (.bool true), .val 58 (.bool true), .val 59 (.bool true), .val 60 (.bool true), .val 61 (.bool true), .val 4 (.bool true), .box (pX) (.cells #[.slice aX ne cX, .slice bX me dX] 25)] (by kernel_rfl) ?_ (w6.heap.size) (w6.heap.size) rfl (Below.refl _ _) rfl (fun _ => 3) ?_ ?_ ?_
        · intro j hj
          have hj3 : j < 20 := hj
          have hj2 : j = 0 ∨ j = 1 ∨ j = 2 ∨ j = 3 ∨ j = 4 ∨ j = 5 ∨ j = 6 ∨ j = 7 ∨ j = 8 ∨ j = 9 ∨ j = 10 ∨ j = 11 ∨ j = 12 ∨ j = 13 ∨ j = 14 ∨ j = 15 ∨ j = 16 ∨ j = 17 ∨ j = 18 ∨ j = 19 := by omega
          clear hj hj3
          rcases hj2 with rfl | rfl | rfl | rfl | rfl | rfl | rfl | rfl | rfl | rfl | rfl | rfl | rfl | rfl | rfl | rfl | rfl | rfl | rfl | rfl
          · exact trivial
          · exact trivial
          · exact trivial
          · exact rowR_near
          · exact graQ_near
          · exact trivial
          · exact trivial
          · exact trivial
          · exact trivial
          · exact trivial
          · exact trivial
          · exact trivial
          · exact trivial
          · exact trivial
          · exact trivial
          · exact trivial
          · exact trivial
          · exact trivial
          · exact trivial
          · exact trivial
        · intro j hj0 hj
          have hj1 : 19 ≤ j := hj0
          have hj3 : j < 20 := hj
          have hj2 : j = 19 := by omega
          clear hj0 hj hj1 hj3
          rcases hj2 with rfl
          · exact ⟨RX.out, rfl⟩
        · intro i hi a wx who hG hF
          have hz : a.tmps.size = 62 := hG.size
          have hi3 : i < 19 := hi
          have hi2 : i = 0 ∨ i = 1 ∨ i = 2 ∨ i = 3 ∨ i = 4 ∨ i = 5 ∨ i = 6 ∨ i = 7 ∨ i = 8 ∨ i = 9 ∨ i = 10 ∨ i = 11 ∨ i = 12 ∨ i = 13 ∨ i = 14 ∨ i = 15 ∨ i = 16 ∨ i = 17 ∨ i = 18 := by omega
          clear hi hi3
          rcases hi2 with rfl | rfl | rfl | rfl | rfl | rfl | rfl | rfl | rfl | rfl | rfl | rfl | rfl | rfl | rfl | rfl | rfl | rfl | rfl
          · exact rol_val rfl rfl rfl (by rw [hz]; decide) (ex_load rfl (eval_slot ((hG.slots 5 (by decide)).trans rfl)) (ld_gra (row2 (hF 19 (by decide)).1).1 (row2 (hF 19 (by decide)).1).2.1)) hG.below
          · exact rol_val rfl rfl rfl (by rw [hz]; decide) (ex_move (Or.inl rfl) (eval_slot ((hG.slots 0 (by decide)).trans rfl))) hG.below
          · exact rol_val rfl rfl rfl (by rw [hz]; decide) (ex_move (Or.inl rfl) (eval_slot ((hG.slots 0 (by decide)).trans rfl))) hG.below
          · refine rol_calls rfl rfl rfl (by rw [hz]; decide) (ex_call rfl (by simp [eval_slot (hF 2 (by decide))]) e7) (KLV.out _ wx (SX.out.below hG.below)) ?_ hG.below hG.new
            rintro e w1 ⟨u, rfl, hown, hb1⟩
            exact ⟨u, rfl, hb1, .inr (.inl ⟨_, u.ownBlock, rfl, fun b e => hown.lt b e, row_base hown hG.new, rfl⟩)⟩
          · exact rol_aggQ rfl rfl rfl (by rw [hz]; decide) rfl (hF 1 (by decide)) (hF 3 (by decide)) hG.below
          · obtain ⟨v48, bs48, hv48, -, b9, m9, d9, rfl, hown9, -⟩ := hF 4 (by decide)
            refine rol_calls rfl rfl rfl (by rw [hz]; decide) (ex_call rfl (by simp [eval_slot (hF 0 (by decide)), eval_slot hv48]) e6) (KSS.out _ _ wx (GX.out.below hG.below) (Gra.mk' (SX.out.below hG.below) (Ints.owned hown9 rfl))) ?_ hG.below hG.new
            rintro e w1 ⟨rfl, hb1⟩
            exact ⟨_, rfl, hb1, .inl rfl⟩
          · exact rol_val rfl rfl rfl (by rw [hz]; decide) (ex_move (Or.inl rfl) (eval_slot (hF 5 (by decide)))) hG.below
          · exact rol_val rfl (want_yes rfl rfl (hF 6 (by decide))) rfl (by rw [hz]; decide) (ex_move (Or.inl rfl) (eval_slot ((hG.slots 6 (by decide)).trans rfl))) hG.below
          · exact rol_val rfl (want_yes rfl rfl (hF 6 (by decide))) rfl (by rw [hz]; decide) (ex_bin rfl (eval_slot (hF 7 (by decide))) rfl (by go_simp) (eq_numR 0 wx)) hG.below
          · exact rol_val rfl rfl rfl (by rw [hz]; decide) (ex_pick_yes rfl (eval_slot (hF 6 (by decide))) (eval_slot (hF 8 (by decide)))) hG.below
          · exact rol_val rfl rfl rfl (by rw [hz]; decide) (ex_move (Or.inl rfl) (eval_slot (hF 9 (by decide)))) hG.below
          · exact rol_val rfl (want_yes rfl rfl (hF 10 (by decide))) rfl (by rw [hz]; decide) (ex_load rfl (eval_slot ((hG.slots 5 (by decide)).trans rfl)) (ld_gra (row2 (hF 19 (by decide)).1).1 (row2 (hF 19 (by decide)).1).2.1)) hG.below
          · refine rol_calls rfl (want_yes rfl rfl (hF 10 (by decide))) rfl (by rw [hz]; decide) (ex_call rfl (by simp [eval_slot (hF 11 (by decide))]) e3) (KCX.out _ wx (GX.out.below hG.below)) ?_ hG.below hG.new
            rintro e w1 ⟨rfl, hb1⟩
            exact ⟨_, rfl, hb1, .inl rfl⟩
          · exact rol_val rfl (want_yes rfl rfl (hF 10 (by decide))) rfl (by rw [hz]; decide) (ex_bin rfl (eval_slot (hF 12 (by decide))) rfl (by go_simp) (eq_numR 0 wx)) hG.below
          · exact rol_val rfl rfl rfl (by rw [hz]; decide) (ex_pick_yes rfl (eval_slot (hF 10 (by decide))) (eval_slot (hF 13 (by decide)))) hG.below
          · exact rol_val rfl rfl rfl (by rw [hz]; decide) (ex_move (Or.inl rfl) (eval_slot (hF 14 (by decide)))) hG.below
          · refine rol_calls rfl (want_yes rfl rfl (hF 15 (by decide))) rfl (by rw [hz]; decide) (ex_call rfl (by simp) e8) (gawake_any wx) ?_ hG.below hG.new
            rintro e w1 ⟨rfl, hb1⟩
            exact ⟨_, rfl, hb1, .inl rfl⟩
          · exact rol_val rfl rfl rfl (by rw [hz]; decide) (ex_pick_yes rfl (eval_slot (hF 15 (by decide))) (eval_slot (hF 16 (by decide)))) hG.below
          · exact rol_val rfl rfl rfl (by rw [hz]; decide) (ex_move (Or.inr rfl) (eval_slot (hF 17 (by decide)))) hG.below
        · intro a wx who hG hF
          have fv4 : a.tmps.getD 4 undef = .bool true := eval_slot (s := 4) (hF 18 (of_decide_eq_true (by kernel_rfl)) (of_decide_eq_true (by kernel_rfl)))
          have hbx := hG.below
          have hnx := hG.new
          rw [hG.frame]
          simp only [List.foldl_cons, List.foldl_nil, List.setIfInBounds_toArray, List.set_cons_zero, List.set_cons_succ]
          generalize a.tmps.getD 44 undef = u44
          generalize a.tmps.getD 45 undef = u45
          generalize a.tmps.getD 46 undef = u46
          generalize a.tmps.getD 47 undef = u47
          generalize a.tmps.getD 48 undef = u48
          generalize a.tmps.getD 49 undef = u49
          generalize a.tmps.getD 50 undef = u50
          generalize a.tmps.getD 51 undef = u51
          generalize a.tmps.getD 52 undef = u52
          generalize a.tmps.getD 53 undef = u53
          generalize a.tmps.getD 54 undef = u54
          generalize a.tmps.getD 55 undef = u55
          generalize a.tmps.getD 56 undef = u56
          generalize a.tmps.getD 57 undef = u57
          generalize a.tmps.getD 58 undef = u58
          generalize a.tmps.getD 59 undef = u59
          generalize a.tmps.getD 60 undef = u60
          generalize a.tmps.getD 61 undef = u61
          rw [fv4]
          clear hF hG fv4
          replace BB := Lib.hid (below_step BB.out hbx)
          clear hbx hnx
          go_wp2
          go_ret
          exact ⟨rfl, BB.out⟩

theorem own : ownKnob Try.prog.godebug = none := by kernel_rfl
theorem laidOut : laidOutB Try.prog = true := by kernel_rfl

set_option maxRecDepth 100000 in
theorem lifted (os : Os) (started : os.Started) (H : Type) (enc : TypeId × Value → H) :
    ReturnsInHanded {} Try.checked os 3 .any (Rows.reachOfSpec.pre6 enc Try.prog Try.f3 Rows.reachOfRow.domain false) (Rows.reachOfSpec.post enc Try.prog Try.f3 false true false false) := by
  refine returnsInHanded_of_change (C := Try.checked) own started (by kernel_rfl) Try.func3
    (ChangeSpec.witness6 (enc := enc) (C := Try.checked) false ⟨#[], #[.slice none 0 0, .agg #[.slice none 0 0, .slice none 0 0]], []⟩ 8 (by kernel_rfl) (by kernel_rfl) (by kernel_rfl) (by kernel_rfl)) ?_
  intro W base args ds gs before hval0 hW hcnd _
  have hval : ∀ (j : Nat) t v, Try.f3.params[j]? = some t → args[j]? = some v → Value.okWide Try.prog W .any base t v := hval0
  have hW' := hW
  obtain ⟨p, q, hA0, hV, rfl, hfz, hnd⟩ := hW
  have hA : DataW.TrodAll enc Try.prog W 0 (fun _ => true) true Try.f3.params.toList args.toList ds p := hA0
  rw [Try.params3] at hA hval
  obtain ⟨v0, vs0, d0, ds0, p0, q0, hargs, rfl, rfl, h0, r0⟩ := trodAll_cons hA
  obtain ⟨v1, vs1, d1, ds1, p1, q1, rfl, rfl, rfl, h1, r1⟩ := trodAll_cons r0
  obtain ⟨rfl, rfl, rfl⟩ := trodAll_nil r1
  obtain rfl : args = #[v0, v1] := by cases args; simp_all
  obtain ⟨rfl, rfl⟩ := trodVars_none hV
  obtain ⟨a0, len0, cap0, rfl⟩ := okWide_slice Try.underlying22 (hval 0 22 v0 rfl rfl)
  have k0 := h0
  have lt0 : ∀ x ∈ p0, x.block < W.heap.size := by obtain ⟨m, hm⟩ := k0; exact DataW.trod_lt m _ _ _ hm
  obtain ⟨z0, w0⟩ : ∃ zs, Eds W (.slice a0 len0 cap0) zs ∧ ∀ e ∈ zs, fitE e := by
    obtain ⟨fuel, hf⟩ := h0
    exact eds_open (by simpa [Value.cells] using hf)
  have k1 := h1
  have lt1 : ∀ x ∈ p1, x.block < W.heap.size := by obtain ⟨m, hm⟩ := k1; exact DataW.trod_lt m _ _ _ hm
  obtain ⟨z1, w1⟩ := gra_open (hval 1 25 v1 rfl rfl) h1
  clear hA0 hval0
  refine (walk _ z0 _ z1 W w0 w1).mono fun e W' ⟨he, bel⟩ => ?_
  subst he
  exact ⟨_, rfl, _, _, _, [], _, [], hW', trodAll_mk1 (shut_bool Try.underlying4 _), (trodAll_cons_mk (Below.trod laidOut (by kernel_rfl) (of_decide_eq_true (by kernel_rfl)) k0 bel lt0) (trodAll_cons_mk (Below.trod laidOut (by kernel_rfl) (of_decide_eq_true (by kernel_rfl)) k1 bel lt1) trodAll_mk0)), rfl, bel.frame _, fun h => by cases h⟩

-- the given statement
theorem proved : Rows.ReachOfSaid :=
  OpenClaim.holds_of_wide 3 Try.f3 rfl rfl rfl rfl rfl rfl rfl ⟨rfl, rfl, rfl, rfl, rfl⟩ rfl rfl rfl rfl rfl (by kernel_rfl) Try.func3 (by kernel_rfl)
    (of_decide_eq_true (by kernel_rfl)) (by unfold Func.isWrapper; first | (rw [if_pos (by decide +kernel)]; kernel_rfl) | (rw [if_neg (by decide +kernel)]; exact ⟨rfl, rfl⟩))
    (fun os started H enc _ => lifted os started H enc)
end Go.Proofs.Ytfkbpkjejnpaiaa.reachOf
