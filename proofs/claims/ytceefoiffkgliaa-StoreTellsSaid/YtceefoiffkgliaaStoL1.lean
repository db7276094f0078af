/- Of every store, every node and every text (no more, and no longer, than are looked at): which stores may be, the node's text, and the store with, and without it, or why not, are as the document says; no condition. -/
import Derived.Test.YtceefoiffkgliaaRows
import Derived.Test.YtceefoiffkgliaaStoS
import Derived.ProofKit
import Derived.OpenShut
import Derived.ShutString
import Derived.ChangeOld
namespace Go.Proofs.Ytceefoiffkgliaa.storeTells
open Go.ChangeShapes Go.WideShapes Go.ChangeAt Go.RowKit
open Go.ChangeMaps (open_string shut_string)
set_option maxRecDepth 100000
set_option linter.unusedVariables false

set_option maxRecDepth 100000 in
set_option maxHeartbeats 6400000 in
theorem walk (M : Value) (x : List Nd × List (List UInt8)) (V : Value) (q : Nd) (a : ByteArray) (w : World) (hM : StoIn w M x.1 x.2) (hV : V = .agg #[.string (mkB q.1), .string (mkB q.2)] ∧ fitsN q) (ha : a.size ≤ maxLen) :
    Calls Try.prog 3 #[M, V, .string a] w fun e w' => e = .returned (.bool true) ∧ Below w.heap.size w w' := by
  obtain ⟨⟨A, n, c, B, m, d, rfl, hk, ht⟩, fK, fT⟩ := hM
  obtain ⟨K0, T0⟩ := x
  simp only at hk ht fK fT
  obtain ⟨rfl, fq⟩ := hV
  obtain ⟨pq, vq⟩ := q
  simp only at fq ⊢
  obtain ⟨t, rfl, -⟩ := mkB_all a
  have hsq := oneN_smallQ (pq, vq)
  have hoq := fun w => one_any pq vq w fq.1 fq.2
  obtain ⟨q1, hq1⟩ : ∃ r, fewL pq = r := ⟨_, rfl⟩
  obtain ⟨q2, hq2⟩ : ∃ r, fewL vq = r := ⟨_, rfl⟩
  simp only at hsq
  rw [hq1, hq2] at hsq hoq
  have hkl := fewNs_len K0; have htl := fewTs_len T0; have hks := fewNs_small K0
  have hfw := fun w h h' => sfew_any A B n c m d K0 T0 w h h' fK fT
  obtain ⟨K, hK⟩ : ∃ r, fewNs K0 = r := ⟨_, rfl⟩
  obtain ⟨T, hT⟩ : ∃ r, fewTs T0 = r := ⟨_, rfl⟩
  rw [hK] at hkl hks hfw
  rw [hT] at htl hfw
  obtain ⟨nK, hnK⟩ : ∃ r, K.length = r := ⟨_, rfl⟩
  obtain ⟨nT, hnT⟩ : ∃ r, T.length = r := ⟨_, rfl⟩
  rw [hnK] at hkl
  rw [hnT] at htl
  obtain ⟨W, gs, gq, hW, hg, hg', r0, r1, hb⟩ := boxS2 w (.slice A n c) (.slice B m d) (.string (mkB pq)) (.string (mkB vq)) 25 27
  have SK0 := Lib.hid hk; have ST0 := Lib.hid ht; have RS := Lib.hid r0; have RNq := Lib.hid r1; have HFW := Lib.hid hfw; have HOq := Lib.hid hoq; have HNK := Lib.hid hnK; have HNT := Lib.hid hnT; have HSQ := Lib.hid hsq; have HSK := Lib.hid hks
  have HLgs := Lib.hid (show w.heap.size ≤ gs by omega); have HLq := Lib.hid (show w.heap.size ≤ gq by omega); have Hqgs := Lib.hid (show ¬ gq = gs by omega)
  have BB := Lib.hid hb; have HW := Lib.hid hW; have HG := Lib.hid hg; have HG' := Lib.hid hg'
  clear hk ht r0 r1 hfw hoq hnK hnT hsq hks hb hW hg hg' hK hT hq1 hq2 fK fT fq
  have e1 : ∀ args w, (callFunc 8 args).run Try.prog w = .ok (.enter 8 args) w := enters_of Try.func8 (by kernel_rfl) rfl
  have e2 : ∀ args w, (callFunc 9 args).run Try.prog w = .ok (.enter 9 args) w := enters_of Try.func9 (by kernel_rfl) rfl
  go_enter Try.func3, Try.ntmps3
  go_upto_region 1 with fail
  rw [HW.out, HG'.out, HG.out]
  refine rol_run (by kernel_rfl) [[], [0], [], [0, 1, 2], [0, 1, 2, 3], [0, 1, 2, 3, 4]] (by kernel_rfl) [14, 15, 16, 17] [[6], [0], [7], [2], [1, 6], [3, 7]] [0, 1, 0, 0, 3, 4, 3, 4] [0, 0, 0, 0, 3, 4] [1000, 1000, 1000, 1000, 1000, 1000, 4, 5] [.val 14 (.agg #[.slice A n c, .slice B m d]), .mems 15 (stoG W.heap.size K T), .val 16 (.agg #[.string (mkB pq), .string (mkB vq)]), .val 17 (.agg #[.string (mkB q1), .string (mkB q2)]), .mem 15 (boxG gs 25), .box (gq) (.cells #[.string (mkB q1), .string (mkB q2)] 27), .box (gs) (.cells #[.slice A n c, .slice B m d] 25), .box (gq) (.cells #[.string (mkB pq), .string (mkB vq)] 27)] (by kernel_rfl) ?_ (w.heap.size) (W.heap.size) rfl BB.out rfl (fun k => if k = gs then 3 else if k = gq then 4 else 0) ?_ ?_ ?_
  · intro j hj
    have hj3 : j < 8 := hj
    have hj2 : j = 0 ∨ j = 1 ∨ j = 2 ∨ j = 3 ∨ j = 4 ∨ j = 5 ∨ j = 6 ∨ j = 7 := by omega
    clear hj hj3
    rcases hj2 with rfl | rfl | rfl | rfl | rfl | rfl | rfl | rfl
    · exact trivial
    · exact stoG_near
    · exact trivial
    · exact trivial
    · exact boxG_near
    · exact trivial
    · exact trivial
    · exact trivial
  · intro j hj0 hj
    have hj1 : 6 ≤ j := hj0
    have hj3 : j < 8 := hj
    have hj2 : j = 6 ∨ j = 7 := by omega
    clear hj0 hj hj1 hj3
    rcases hj2 with rfl | rfl
    · exact ⟨RS.out, if_pos rfl⟩
    · exact ⟨RNq.out, (if_neg Hqgs.out).trans (if_pos rfl)⟩
  · intro i hi a wx who hG hF
    have hz : a.tmps.size = 152 := hG.size
    have hi3 : i < 6 := hi
    have hi2 : i = 0 ∨ i = 1 ∨ i = 2 ∨ i = 3 ∨ i = 4 ∨ i = 5 := by omega
    clear hi hi3
    rcases hi2 with rfl | rfl | rfl | rfl | rfl | rfl
    · exact rol_val rfl rfl rfl (by rw [hz]; decide) (ex_load rfl (eval_slot ((hG.slots 3 (by decide)).trans rfl)) (ld_sto (row2 (hF 6 (by decide)).1).1 (row2 (hF 6 (by decide)).1).2.1)) hG.below
    · refine rol_calls rfl rfl rfl (by rw [hz]; decide) (ex_call rfl (by simp [eval_slot (hF 0 (by decide))]) e1) (HFW.out wx (Nds.below SK0.out hG.below) (Strs.belowB ST0.out hG.below)) ?_ hG.below (Nat.le_trans BB.out.size hG.new)
      rintro e w1 ⟨u, rfl, hso, hb1⟩
      obtain ⟨bs, hbs, hg⟩ := hso.toG hG.new
      exact ⟨u, rfl, hb1, .inr (.inr ⟨_, bs, rfl, hbs, hg⟩)⟩
    · exact rol_val rfl rfl rfl (by rw [hz]; decide) (ex_load rfl (eval_slot ((hG.slots 4 (by decide)).trans rfl)) (ld_node (row2 (hF 7 (by decide)).1).1 (row2 (hF 7 (by decide)).1).2.1)) hG.below
    · refine rol_calls rfl rfl rfl (by rw [hz]; decide) (ex_call rfl (by simp [eval_slot (hF 2 (by decide))]) e2) (HOq.out wx) ?_ hG.below (Nat.le_trans BB.out.size hG.new)
      rintro e w1 ⟨rfl, hb1⟩
      exact ⟨_, rfl, hb1, .inl rfl⟩
    · exact rol_box rfl rfl rfl rfl (eval_slot ((hG.slots 3 (by decide)).trans rfl)) (hF 1 (by decide)) (hF 6 (by decide)) hG.below HLgs.out
    · exact rol_box_node rfl rfl rfl rfl (eval_slot ((hG.slots 4 (by decide)).trans rfl)) (eval_slot (hF 3 (by decide))) (hF 7 (by decide)) hG.below HLq.out
  · intro a wx who hG hF
    obtain ⟨v15, bs15, fv15, fo15, fp15⟩ := hF 1 (of_decide_eq_true (by kernel_rfl)) (of_decide_eq_true (by kernel_rfl))
    replace fv15 : a.tmps.getD 15 undef = v15 := eval_slot (s := 15) fv15
    have hbox := hF 4 (of_decide_eq_true (by kernel_rfl)) (of_decide_eq_true (by kernel_rfl))
    have hbn0 := hF 5 (of_decide_eq_true (by kernel_rfl)) (of_decide_eq_true (by kernel_rfl))
    obtain ⟨p11, ob11, hp11, -, -, x11, y11, hv11, hrow11⟩ := hbox
    have e11 : v15 = p11 := fv15.symm.trans (eval_slot hp11)
    subst e11
    clear hp11 ob11
    replace hbn0 := hbn0.1
    have hbx := hG.below
    have hnx := hG.new
    rw [hG.frame]
    simp only [List.foldl_cons, List.foldl_nil, List.setIfInBounds_toArray, List.set_cons_zero, List.set_cons_succ]
    generalize a.tmps.getD 14 undef = u14
    rw [fv15]
    generalize a.tmps.getD 16 undef = u16
    generalize a.tmps.getD 17 undef = u17
    clear hF hG fv15
    obtain ⟨aK, cK, aT, cT, hv1, hn1, ht1⟩ := fp15.own.forms
    rw [hv11] at hv1
    injection hv1 with hv1
    injection hv1 with hv1
    injection hv1 with hv1 hv2
    injection hv2 with hv2
    subst hv1 hv2 hv11
    obtain ⟨s0, s1, -, -⟩ := row2 hrow11
    rw [HNK.out] at hn1 s0 ⊢
    rw [HNT.out] at ht1 s1 ⊢
    obtain ⟨qx0, qx1, -, -⟩ := row2 hbn0
    have SK := Lib.hid hn1; have ST := Lib.hid ht1
    replace BB := Lib.hid hbx
    clear fp15 fo15 hrow11 hn1 ht1 hbx hnx hbn0 SK0 ST0 RS RNq HFW HOq e1 e2 HLgs HLq
    have kget := fun w h h' => sget_any aK aT nK cK nT cT K T q1 q2 w h h' HSK.out HSQ.out (by omega)
    have kput := fun w h h' => sput_any aK aT nK cK nT cT K T q1 q2 t w h h' HSK.out HSQ.out (by omega) (by omega)
    have kdrp := fun w h h' => sdrop_any aK aT nK cK nT cT K T q1 q2 w h h' HSK.out HSQ.out (by omega) (by omega)
    obtain ⟨G, hG⟩ : ∃ r, getE K T (q1, q2) = r := ⟨_, rfl⟩
    obtain ⟨P, hP⟩ : ∃ r, putE K T (q1, q2) t = r := ⟨_, rfl⟩
    obtain ⟨D, hD⟩ : ∃ r, dropE K T (q1, q2) = r := ⟨_, rfl⟩
    have hpl := putE_len (n := (q1, q2)) (t := t) (m := 24) (by rw [HNK.out]; exact hkl) (by rw [HNT.out]; exact htl)
    rw [hG] at kget
    rw [hP] at kput hpl
    rw [hD] at kdrp
    obtain ⟨G1, G2⟩ := G
    obtain ⟨P1, P2, P3⟩ := P
    obtain ⟨D1, D2, D3⟩ := D
    simp only at kget kput hpl kdrp
    obtain ⟨np, hnp⟩ : ∃ r, P1.length = r := ⟨_, rfl⟩
    obtain ⟨npt, hnpt⟩ : ∃ r, P2.length = r := ⟨_, rfl⟩
    obtain ⟨nd, hnd⟩ : ∃ r, D1.length = r := ⟨_, rfl⟩
    obtain ⟨ndt, hndt⟩ : ∃ r, D2.length = r := ⟨_, rfl⟩
    have KGET := Lib.hid kget; have KPUT := Lib.hid kput; have KDRP := Lib.hid kdrp; have HP := Lib.hid hP; have HGE := Lib.hid hG; have HDE := Lib.hid hD; have HNP := Lib.hid hnp; have HNPT := Lib.hid hnpt; have HND := Lib.hid hnd; have HNDT := Lib.hid hndt
    have HKB := Lib.hid (show nK ≤ 600000 by omega)
    clear kget kput kdrp hP hG hD hpl hnp hnpt hnd hndt
    go_upto_region 3 with (go_at_call 10; refine (KGET.out _ SK.out ST.out).mono ?_; rintro e w3 ⟨rfl, hb3⟩; replace s0 := cell_keep s0 hb3; replace s1 := cell_keep s1 hb3; replace qx0 := cell_keep qx0 hb3; replace qx1 := cell_keep qx1 hb3; replace SK := Lib.hid (SK.out.below hb3); replace ST := Lib.hid (ST.out.belowB hb3); replace BB := Lib.hid (below_step BB.out hb3); clear hb3)
    go_upto_region 4 with (go_at_call 11; refine (KPUT.out _ SK.out ST.out).mono ?_; rintro e w6 ⟨u, rfl, hso, hb4⟩; obtain ⟨pa, pc, pb, pd, rfl, hn4, ht4⟩ := hso.forms; rw [HNP.out] at hn4 ⊢; rw [HNPT.out] at ht4 ⊢; replace s0 := cell_keep s0 hb4; replace s1 := cell_keep s1 hb4; replace qx0 := cell_keep qx0 hb4; replace qx1 := cell_keep qx1 hb4; replace SK := Lib.hid (SK.out.below hb4); replace ST := Lib.hid (ST.out.belowB hb4); replace BB := Lib.hid (below_step BB.out hb4); have SP := Lib.hid hn4; have SQ := Lib.hid ht4; clear hb4 hso hn4 ht4)
    obtain ⟨W6, gp, hW5, hg5, -, p0, p1, hb5⟩ := boxS w6 (.slice pa np pc) (.slice pb npt pd) 25
    rw [hW5, hg5]
    replace SP := Lib.hid (SP.out.below hb5); replace SQ := Lib.hid (SQ.out.belowB hb5)
    replace s0 := cell_keep s0 hb5; replace s1 := cell_keep s1 hb5; replace qx0 := cell_keep qx0 hb5; replace qx1 := cell_keep qx1 hb5; replace SK := Lib.hid (SK.out.below hb5); replace ST := Lib.hid (ST.out.belowB hb5); replace BB := Lib.hid (below_step BB.out hb5)
    clear hW5 hg5 hb5
    go_upto_region 5 with (go_at_call 12; refine (KDRP.out _ SK.out ST.out).mono ?_; rintro e w7 ⟨u, rfl, hso, hb4⟩; obtain ⟨da, dc, db, dd, rfl, hn4, ht4⟩ := hso.forms; rw [HND.out] at hn4 ⊢; rw [HNDT.out] at ht4 ⊢; replace s0 := cell_keep s0 hb4; replace s1 := cell_keep s1 hb4; replace qx0 := cell_keep qx0 hb4; replace qx1 := cell_keep qx1 hb4; replace p0 := cell_keep p0 hb4; replace p1 := cell_keep p1 hb4; replace SK := Lib.hid (SK.out.below hb4); replace SP := Lib.hid (SP.out.below hb4); replace ST := Lib.hid (ST.out.belowB hb4); replace SQ := Lib.hid (SQ.out.belowB hb4); replace BB := Lib.hid (below_step BB.out hb4); have SD := Lib.hid hn4; have SE := Lib.hid ht4; clear hb4 hso hn4 ht4)
    obtain ⟨W7, gd, hW5, hg5, -, d0, d1, hb5⟩ := boxS w7 (.slice da nd dc) (.slice db ndt dd) 25
    rw [hW5, hg5]
    replace SD := Lib.hid (SD.out.below hb5); replace SE := Lib.hid (SE.out.belowB hb5)
    replace s0 := cell_keep s0 hb5; replace s1 := cell_keep s1 hb5; replace qx0 := cell_keep qx0 hb5; replace qx1 := cell_keep qx1 hb5; replace p0 := cell_keep p0 hb5; replace p1 := cell_keep p1 hb5; replace SK := Lib.hid (SK.out.below hb5); replace SP := Lib.hid (SP.out.below hb5); replace ST := Lib.hid (ST.out.belowB hb5); replace SQ := Lib.hid (SQ.out.belowB hb5); replace BB := Lib.hid (below_step BB.out hb5)
    clear hW5 hg5 hb5
    clear KGET KPUT KDRP
    have x1 : ∀ args w, (callFunc 13 args).run Try.prog w = .ok (.enter 13 args) w := enters_of Try.func13 (by kernel_rfl) rfl
    have x2 : ∀ args w, (callFunc 14 args).run Try.prog w = .ok (.enter 14 args) w := enters_of Try.func14 (by kernel_rfl) rfl
    have x3 : ∀ args w, (callFunc 15 args).run Try.prog w = .ok (.enter 15 args) w := enters_of Try.func15 (by kernel_rfl) rfl
    have x4 : ∀ args w, (callFunc 16 args).run Try.prog w = .ok (.enter 16 args) w := enters_of Try.func16 (by kernel_rfl) rfl
    have x5 : ∀ args w, (callFunc 19 args).run Try.prog w = .ok (.enter 19 args) w := enters_of Try.func19 (by kernel_rfl) rfl
    have x6 : ∀ args w, (callFunc 21 args).run Try.prog w = .ok (.enter 21 args) w := enters_of Try.func21 (by kernel_rfl) rfl
    have x7 : ∀ args w, (callFunc 18 args).run Try.prog w = .ok (.enter 18 args) w := enters_of Try.func18 (by kernel_rfl) rfl
    obtain ⟨wr, hwr⟩ : ∃ r, r = W7 := ⟨_, rfl⟩
    subst hwr
    refine rol_run (by kernel_rfl) [[], [0], [0, 1], [], [0, 1, 3], [0, 1, 2, 3, 4], [0, 1, 2, 3, 4, 5], [0, 1, 2, 3, 4, 5, 6], [0, 1, 2, 3, 4, 5, 6], [0, 1, 2, 3, 4, 5, 6, 7, 8], [0, 1, 2, 3, 4, 5, 6], [0, 1, 2, 3, 4, 5, 6], [0, 1, 2, 3, 4, 5, 6, 7, 8, 9, 10, 11], [0, 1, 2, 3, 4, 5, 6, 7, 8, 9, 10, 11, 12], [0, 1, 2, 3, 4, 5, 6, 7, 8, 9, 10, 11, 12, 13], [0, 1, 2, 3, 4, 5, 6, 7, 8, 9, 10, 11, 12, 13, 14], [0, 1, 2, 3, 4, 5, 6, 7, 8, 9, 10, 11, 12, 13, 14, 15], [0, 1, 2, 3, 4, 5, 6, 7, 8, 9, 10, 11, 12, 13, 14, 15], [0, 1, 2, 3, 4, 5, 6, 7, 8, 9, 10, 11, 12, 13, 14, 15, 16, 17], [0, 1, 2, 3, 4, 5, 6, 7, 8, 9, 10, 11, 12, 13, 14, 15, 16, 17, 18], [0, 1, 2, 3, 4, 5, 6, 7, 8, 9, 10, 11, 12, 13, 14, 15, 16, 17, 18, 19]] (by kernel_rfl) [37, 38, 39, 40, 41, 42, 43, 44, 45, 46, 47, 48, 49, 50, 51, 52, 53, 54, 55, 56, 57] [[], [0], [1], [], [3], [2, 4], [5], [6], [6], [6, 7, 8], [6], [6], [6, 10, 11], [6, 9, 12], [6, 13], [14], [15], [15], [15, 16, 17], [15, 18], [15, 19]] [0, 0, 0, 0, 0, 0, 0, 0, 0, 0, 0, 0, 0, 0, 0, 0, 0, 0, 0, 0, 0] [0, 0, 0, 0, 0, 0, 0, 0, 0, 0, 0, 0, 0, 0, 0, 0, 0, 0, 0, 0, 0] [1000, 1000, 1000, 1000, 1000, 1000, 1000, 1000, 1000, 1000, 1000, 1000, 1000, 1000, 1000, 1000, 1000, 1000, 1000, 1000, 1000] [.val 37 (.agg #[.slice aK nK cK, .slice aT nT cT]), .val 38 (.int .i64 (chkS K T)), .val 39 (.bool (okS K T)), .val 40 (.agg #[.slice aK nK cK, .slice aT nT cT]), .val 41 (.bool (okS K T)), .val 42 (.bool false), .val 43 (.bool false), .val 44 (.agg #[.slice pa np pc, .slice pb npt pd]), .val 45 (.agg #[.slice aK nK cK, .slice aT nT cT]), .val 46 (.bool (sameS P1 K P2 T)), .val 47 (.agg #[.slice pa np pc, .slice pb npt pd]), .val 48 (.agg #[.slice aK nK cK, .slice aT nT cT]), .val 49 (.bool (sameS P1 K P2 T)), .val 50 (.bool false), .val 51 (.bool false), .val 52 (.bool false), .val 53 (.agg #[.slice aK nK cK, .slice aT nT cT]), .val 54 (.agg #[.slice aK nK cK, .slice aT nT cT]), .val 55 (.bool true), .val 56 (.bool false), .val 57 (.bool false)] (by kernel_rfl) ?_ (wr.heap.size) (wr.heap.size) rfl (Below.refl _ _) rfl (fun _ => 0) ?_ ?_ ?_
    · intro j hj
      have hj3 : j < 21 := hj
      have hj2 : j = 0 ∨ j = 1 ∨ j = 2 ∨ j = 3 ∨ j = 4 ∨ j = 5 ∨ j = 6 ∨ j = 7 ∨ j = 8 ∨ j = 9 ∨ j = 10 ∨ j = 11 ∨ j = 12 ∨ j = 13 ∨ j = 14 ∨ j = 15 ∨ j = 16 ∨ j = 17 ∨ j = 18 ∨ j = 19 ∨ j = 20 := by omega
      clear hj hj3
      rcases hj2 with rfl | rfl | rfl | rfl | rfl | rfl | rfl | rfl | rfl | rfl | rfl | rfl | rfl | rfl | rfl | rfl | rfl | rfl | rfl | rfl | rfl
      · exact trivial
      · exact trivial
      · exact trivial
      · exact trivial
      · exact trivial
      · exact trivial
      · exact trivial
      · exact trivial
      · exact trivial
      · exact trivial
      · exact trivial
      · exact trivial
      · exact trivial
      · exact trivial
      · exact trivial
      · exact trivial
      · exact trivial
      · exact trivial
      · exact trivial
      · exact trivial
      · exact trivial
    · intro j hj0 hj
      exact absurd hj (Nat.not_lt.2 hj0)
    · intro i hi a wx who hG hF
      have hz : a.tmps.size = 152 := hG.size
      have hi3 : i < 21 := hi
      have hi2 : i = 0 ∨ i = 1 ∨ i = 2 ∨ i = 3 ∨ i = 4 ∨ i = 5 ∨ i = 6 ∨ i = 7 ∨ i = 8 ∨ i = 9 ∨ i = 10 ∨ i = 11 ∨ i = 12 ∨ i = 13 ∨ i = 14 ∨ i = 15 ∨ i = 16 ∨ i = 17 ∨ i = 18 ∨ i = 19 ∨ i = 20 := by omega
      clear hi hi3
      rcases hi2 with rfl | rfl | rfl | rfl | rfl | rfl | rfl | rfl | rfl | rfl | rfl | rfl | rfl | rfl | rfl | rfl | rfl | rfl | rfl | rfl | rfl
      · exact rol_val rfl rfl rfl (by rw [hz]; decide) (ex_load rfl (eval_slot ((hG.slots 3 (by decide)).trans rfl)) (ld_sto (cell_keep s0 hG.below) (cell_keep s1 hG.below))) hG.below
      · refine rol_call rfl rfl rfl (by rw [hz]; decide) (ex_call rfl (by simp [eval_slot (hF 0 (by decide))]) x1) (schk_any aK aT nK cK nT cT K T wx (SK.out.below hG.below) (ST.out.belowB hG.below) HSK.out) ?_ hG.below hG.new
        rintro e w1 ⟨rfl, hb1⟩
        exact ⟨_, rfl, hb1, .inl rfl⟩
      · exact rol_val rfl rfl rfl (by rw [hz]; decide) (ex_bin rfl (eval_slot (hF 1 (by decide))) rfl (by go_simp) (eql_chk K T)) hG.below
      · exact rol_val rfl rfl rfl (by rw [hz]; decide) (ex_load rfl (eval_slot ((hG.slots 3 (by decide)).trans rfl)) (ld_sto (cell_keep s0 hG.below) (cell_keep s1 hG.below))) hG.below
      · refine rol_call rfl rfl rfl (by rw [hz]; decide) (ex_call rfl (by simp [eval_slot (hF 3 (by decide))]) x2) (refsmay_any aK aT nK cK nT cT K T wx (SK.out.below hG.below) (ST.out.belowB hG.below) HSK.out) ?_ hG.below hG.new
        rintro e w1 ⟨rfl, hb1⟩
        exact ⟨_, rfl, hb1, .inl rfl⟩
      · exact rol_val rfl rfl rfl (by rw [hz]; decide) (ex_bin rfl (eval_slot (hF 2 (by decide))) (eval_slot (hF 4 (by decide))) (by go_simp) (neq_self _)) hG.below
      · exact rol_val rfl rfl rfl (by rw [hz]; decide) (ex_move (Or.inl rfl) (eval_slot (hF 5 (by decide)))) hG.below
      · exact rol_val rfl (want_yes rfl rfl (hF 6 (by decide))) rfl (by rw [hz]; decide) (ex_load rfl (eval_slot ((hG.slots 9 (by decide)).trans rfl)) (ld_sto (cell_keep p0 hG.below) (cell_keep p1 hG.below))) hG.below
      · exact rol_val rfl (want_yes rfl rfl (hF 6 (by decide))) rfl (by rw [hz]; decide) (ex_load rfl (eval_slot ((hG.slots 3 (by decide)).trans rfl)) (ld_sto (cell_keep s0 hG.below) (cell_keep s1 hG.below))) hG.below
      · refine rol_call rfl (want_yes rfl rfl (hF 6 (by decide))) rfl (by rw [hz]; decide) (ex_call rfl (by simp [eval_slot (hF 7 (by decide)), eval_slot (hF 8 (by decide))]) x3) (ssame_any pa pb aK aT np pc npt pd nK cK nT cT P1 K P2 T wx (SP.out.below hG.below) (SQ.out.belowB hG.below) (SK.out.below hG.below) (ST.out.belowB hG.below)) ?_ hG.below hG.new
        rintro e w1 ⟨rfl, hb1⟩
        exact ⟨_, rfl, hb1, .inl rfl⟩
      · exact rol_val rfl (want_yes rfl rfl (hF 6 (by decide))) rfl (by rw [hz]; decide) (ex_load rfl (eval_slot ((hG.slots 9 (by decide)).trans rfl)) (ld_sto (cell_keep p0 hG.below) (cell_keep p1 hG.below))) hG.below
      · exact rol_val rfl (want_yes rfl rfl (hF 6 (by decide))) rfl (by rw [hz]; decide) (ex_load rfl (eval_slot ((hG.slots 3 (by decide)).trans rfl)) (ld_sto (cell_keep s0 hG.below) (cell_keep s1 hG.below))) hG.below
      · refine rol_call rfl (want_yes rfl rfl (hF 6 (by decide))) rfl (by rw [hz]; decide) (ex_call rfl (by simp [eval_slot (hF 10 (by decide)), eval_slot (hF 11 (by decide))]) x4) (refssame_any pa pb aK aT np pc npt pd nK cK nT cT P1 K P2 T wx (SP.out.below hG.below) (SQ.out.belowB hG.below) (SK.out.below hG.below) (ST.out.belowB hG.below)) ?_ hG.below hG.new
        rintro e w1 ⟨rfl, hb1⟩
        exact ⟨_, rfl, hb1, .inl rfl⟩
      · exact rol_val rfl (want_yes rfl rfl (hF 6 (by decide))) rfl (by rw [hz]; decide) (ex_bin rfl (eval_slot (hF 9 (by decide))) (eval_slot (hF 12 (by decide))) (by go_simp) (neq_self _)) hG.below
      · exact rol_val rfl rfl rfl (by rw [hz]; decide) (ex_pick_no rfl (eval_slot (hF 6 (by decide))) (eval_slot (hF 13 (by decide)))) hG.below
      · exact rol_val rfl rfl rfl (by rw [hz]; decide) (ex_move (Or.inl rfl) (eval_slot (hF 14 (by decide)))) hG.below
      · exact rol_val rfl (want_yes rfl rfl (hF 15 (by decide))) rfl (by rw [hz]; decide) (ex_load rfl (eval_slot ((hG.slots 3 (by decide)).trans rfl)) (ld_sto (cell_keep s0 hG.below) (cell_keep s1 hG.below))) hG.below
      · exact rol_val rfl (want_yes rfl rfl (hF 15 (by decide))) rfl (by rw [hz]; decide) (ex_load rfl (eval_slot ((hG.slots 3 (by decide)).trans rfl)) (ld_sto (cell_keep s0 hG.below) (cell_keep s1 hG.below))) hG.below
      · refine rol_call rfl (want_yes rfl rfl (hF 15 (by decide))) rfl (by rw [hz]; decide) (ex_call rfl (by simp [eval_slot (hF 16 (by decide)), eval_slot (hF 17 (by decide))]) x3) (ssame_any aK aT aK aT nK cK nT cT nK cK nT cT K K T T wx (SK.out.below hG.below) (ST.out.belowB hG.below) (SK.out.below hG.below) (ST.out.belowB hG.below)) ?_ hG.below hG.new
        rintro e w1 ⟨rfl, hb1⟩
        rw [sameS_self]
        exact ⟨_, rfl, hb1, .inl rfl⟩
      · exact rol_val rfl (want_yes rfl rfl (hF 15 (by decide))) rfl (by rw [hz]; decide) (ex_un rfl (eval_slot (hF 18 (by decide))) rfl) hG.below
      · exact rol_val rfl rfl rfl (by rw [hz]; decide) (ex_pick_no rfl (eval_slot (hF 15 (by decide))) (eval_slot (hF 19 (by decide)))) hG.below
    · intro a wx who hG hF
      have fv57 : a.tmps.getD 57 undef = .bool false := eval_slot (s := 57) (hF 20 (of_decide_eq_true (by kernel_rfl)) (of_decide_eq_true (by kernel_rfl)))
      have hbx := hG.below
      have hnx := hG.new
      rw [hG.frame]
      simp only [List.foldl_cons, List.foldl_nil, List.setIfInBounds_toArray, List.set_cons_zero, List.set_cons_succ]
      generalize a.tmps.getD 37 undef = u37
      generalize a.tmps.getD 38 undef = u38
      generalize a.tmps.getD 39 undef = u39
      generalize a.tmps.getD 40 undef = u40
      generalize a.tmps.getD 41 undef = u41
      generalize a.tmps.getD 42 undef = u42
      generalize a.tmps.getD 43 undef = u43
      generalize a.tmps.getD 44 undef = u44
      generalize a.tmps.getD 45 undef = u45
      generalize a.tmps.getD 46 undef = u46
      generalize a.tmps.getD 47 undef = u47
      generalize a.tmps.getD 48 undef = u48
      generalize a.tmps.getD 49 undef = u49
      generalize a.tmps.getD 50 undef = u50
      generalize a.tmps.getD 51 undef = u51
      generalize a.tmps.getD 52 undef = u52
      generalize a.tmps.getD 53 undef = u53
      generalize a.tmps.getD 54 undef = u54
      generalize a.tmps.getD 55 undef = u55
      generalize a.tmps.getD 56 undef = u56
      rw [fv57]
      clear hF hG fv57
      replace s0 := cell_keep s0 hbx; replace s1 := cell_keep s1 hbx; replace qx0 := cell_keep qx0 hbx; replace qx1 := cell_keep qx1 hbx; replace p0 := cell_keep p0 hbx; replace p1 := cell_keep p1 hbx; replace d0 := cell_keep d0 hbx; replace d1 := cell_keep d1 hbx; replace SK := Lib.hid (SK.out.below hbx); replace SP := Lib.hid (SP.out.below hbx); replace SD := Lib.hid (SD.out.below hbx); replace ST := Lib.hid (ST.out.belowB hbx); replace SQ := Lib.hid (SQ.out.belowB hbx); replace SE := Lib.hid (SE.out.belowB hbx); replace BB := Lib.hid (below_step BB.out hbx)
      clear hbx hnx
      cases hx : okS K T
      · have hno : (okS K T && okN (q1, q2)) = false := by rw [hx]; rfl
        have h1 := HGE.out
        rw [getE_no hno] at h1
        have h2 := HP.out
        rw [putE_no hno] at h2
        have h4 := HDE.out
        rw [dropE_no hno] at h4
        obtain ⟨rfl, rfl⟩ := Prod.mk.inj h1
        obtain ⟨rfl, h3⟩ := Prod.mk.inj h2
        obtain ⟨rfl, rfl⟩ := Prod.mk.inj h3
        obtain ⟨rfl, h5⟩ := Prod.mk.inj h4
        obtain ⟨rfl, rfl⟩ := Prod.mk.inj h5
        have HX := Lib.hid hx
        clear h1 h2 h3 h4 h5 hno hx
        have hq0 : (mkB []).toList = [] := by decide +kernel
        go_wp2_with (first
          | (go_at_call 14; refine (refsmay_any aK aT nK cK nT cT _ _ _ SK.out ST.out HSK.out).mono ?_; rintro e w9 ⟨rfl, hb9⟩; rw [HX.out]; replace s0 := cell_keep s0 hb9; replace s1 := cell_keep s1 hb9; replace qx0 := cell_keep qx0 hb9; replace qx1 := cell_keep qx1 hb9; replace p0 := cell_keep p0 hb9; replace p1 := cell_keep p1 hb9; replace d0 := cell_keep d0 hb9; replace d1 := cell_keep d1 hb9; replace SK := Lib.hid (SK.out.below hb9); replace SP := Lib.hid (SP.out.below hb9); replace SD := Lib.hid (SD.out.below hb9); replace ST := Lib.hid (ST.out.belowB hb9); replace SQ := Lib.hid (SQ.out.belowB hb9); replace SE := Lib.hid (SE.out.belowB hb9); replace BB := Lib.hid (below_step BB.out hb9); clear hb9)
          | (go_at_call 16; refine (refssame_any _ _ aK aT _ _ _ _ nK cK nT cT _ _ _ _ _ (by first | exact SP.out | exact SD.out) (by first | exact SQ.out | exact SE.out) SK.out ST.out).mono ?_; rintro e w9 ⟨rfl, hb9⟩; rw [sameS_self]; replace s0 := cell_keep s0 hb9; replace s1 := cell_keep s1 hb9; replace qx0 := cell_keep qx0 hb9; replace qx1 := cell_keep qx1 hb9; replace p0 := cell_keep p0 hb9; replace p1 := cell_keep p1 hb9; replace d0 := cell_keep d0 hb9; replace d1 := cell_keep d1 hb9; replace SK := Lib.hid (SK.out.below hb9); replace SP := Lib.hid (SP.out.below hb9); replace SD := Lib.hid (SD.out.below hb9); replace ST := Lib.hid (ST.out.belowB hb9); replace SQ := Lib.hid (SQ.out.belowB hb9); replace SE := Lib.hid (SE.out.belowB hb9); replace BB := Lib.hid (below_step BB.out hb9); clear hb9)
          | (go_at_call 18; refine (sawake_any _).mono ?_; rintro e w9 ⟨rfl, hb9⟩; replace BB := Lib.hid (below_step BB.out hb9); clear hb9))
        go_ret
        exact ⟨rfl, BB.out⟩
      · cases hy : okN (q1, q2)
        · have hno : (okS K T && okN (q1, q2)) = false := by rw [hx, hy]; rfl
          have h1 := HGE.out
          rw [getE_no hno] at h1
          have h2 := HP.out
          rw [putE_no hno] at h2
          have h4 := HDE.out
          rw [dropE_no hno] at h4
          obtain ⟨rfl, rfl⟩ := Prod.mk.inj h1
          obtain ⟨rfl, h3⟩ := Prod.mk.inj h2
          obtain ⟨rfl, rfl⟩ := Prod.mk.inj h3
          obtain ⟨rfl, h5⟩ := Prod.mk.inj h4
          obtain ⟨rfl, rfl⟩ := Prod.mk.inj h5
          have HX := Lib.hid hx; have HY := Lib.hid hy
          clear h1 h2 h3 h4 h5 hno hx hy
          have hq0 : (mkB []).toList = [] := by decide +kernel
          go_wp2_with (first
            | (go_at_call 14; refine (refsmay_any aK aT nK cK nT cT _ _ _ SK.out ST.out HSK.out).mono ?_; rintro e w9 ⟨rfl, hb9⟩; rw [HX.out]; replace s0 := cell_keep s0 hb9; replace s1 := cell_keep s1 hb9; replace qx0 := cell_keep qx0 hb9; replace qx1 := cell_keep qx1 hb9; replace p0 := cell_keep p0 hb9; replace p1 := cell_keep p1 hb9; replace d0 := cell_keep d0 hb9; replace d1 := cell_keep d1 hb9; replace SK := Lib.hid (SK.out.below hb9); replace SP := Lib.hid (SP.out.below hb9); replace SD := Lib.hid (SD.out.below hb9); replace ST := Lib.hid (ST.out.belowB hb9); replace SQ := Lib.hid (SQ.out.belowB hb9); replace SE := Lib.hid (SE.out.belowB hb9); replace BB := Lib.hid (below_step BB.out hb9); clear hb9)
            | (go_at_call 17; refine (refnmay_any q1 q2 _ HSQ.out.1 HSQ.out.2).mono ?_; rintro e w9 ⟨rfl, hb9⟩; rw [HY.out]; replace s0 := cell_keep s0 hb9; replace s1 := cell_keep s1 hb9; replace qx0 := cell_keep qx0 hb9; replace qx1 := cell_keep qx1 hb9; replace p0 := cell_keep p0 hb9; replace p1 := cell_keep p1 hb9; replace d0 := cell_keep d0 hb9; replace d1 := cell_keep d1 hb9; replace SK := Lib.hid (SK.out.below hb9); replace SP := Lib.hid (SP.out.below hb9); replace SD := Lib.hid (SD.out.below hb9); replace ST := Lib.hid (ST.out.belowB hb9); replace SQ := Lib.hid (SQ.out.belowB hb9); replace SE := Lib.hid (SE.out.belowB hb9); replace BB := Lib.hid (below_step BB.out hb9); clear hb9)
            | (go_at_call 16; refine (refssame_any _ _ aK aT _ _ _ _ nK cK nT cT _ _ _ _ _ (by first | exact SP.out | exact SD.out) (by first | exact SQ.out | exact SE.out) SK.out ST.out).mono ?_; rintro e w9 ⟨rfl, hb9⟩; rw [sameS_self]; replace s0 := cell_keep s0 hb9; replace s1 := cell_keep s1 hb9; replace qx0 := cell_keep qx0 hb9; replace qx1 := cell_keep qx1 hb9; replace p0 := cell_keep p0 hb9; replace p1 := cell_keep p1 hb9; replace d0 := cell_keep d0 hb9; replace d1 := cell_keep d1 hb9; replace SK := Lib.hid (SK.out.below hb9); replace SP := Lib.hid (SP.out.below hb9); replace SD := Lib.hid (SD.out.below hb9); replace ST := Lib.hid (ST.out.belowB hb9); replace SQ := Lib.hid (SQ.out.belowB hb9); replace SE := Lib.hid (SE.out.belowB hb9); replace BB := Lib.hid (below_step BB.out hb9); clear hb9)
            | (go_at_call 18; refine (sawake_any _).mono ?_; rintro e w9 ⟨rfl, hb9⟩; replace BB := Lib.hid (below_step BB.out hb9); clear hb9))
          go_ret
          exact ⟨rfl, BB.out⟩
        · obtain ⟨z1, z2, z3⟩ := okS_zip hx
          have h2 := HP.out
          have e5 := putE_yes (S := K.zip T) (t := t) z3 hy
          rw [z1, z2] at e5
          rw [e5] at h2
          obtain ⟨hp1, h3⟩ := Prod.mk.inj h2
          obtain ⟨hp2, rfl⟩ := Prod.mk.inj h3
          have hnn : nK = nT := by
            have := hx
            unfold okS at this
            rw [Bool.and_eq_true, decide_eq_true_iff] at this
            rw [← HNK.out, ← HNT.out]; exact this.2
          have HP1 := Lib.hid hp1; have HP2 := Lib.hid hp2; have HX := Lib.hid hx; have HY := Lib.hid hy; have HNN := Lib.hid hnn
          clear h2 h3 e5 hp1 hp2 hx hy hnn z1 z2 z3
          go_upto_region 9 with (first
            | (go_at_call 14; refine (refsmay_any aK aT nK cK nT cT K T _ SK.out ST.out HSK.out).mono ?_; rintro e w9 ⟨rfl, hb9⟩; rw [HX.out]; replace s0 := cell_keep s0 hb9; replace s1 := cell_keep s1 hb9; replace qx0 := cell_keep qx0 hb9; replace qx1 := cell_keep qx1 hb9; replace p0 := cell_keep p0 hb9; replace p1 := cell_keep p1 hb9; replace d0 := cell_keep d0 hb9; replace d1 := cell_keep d1 hb9; replace SK := Lib.hid (SK.out.below hb9); replace SP := Lib.hid (SP.out.below hb9); replace SD := Lib.hid (SD.out.below hb9); replace ST := Lib.hid (ST.out.belowB hb9); replace SQ := Lib.hid (SQ.out.belowB hb9); replace SE := Lib.hid (SE.out.belowB hb9); replace BB := Lib.hid (below_step BB.out hb9); clear hb9)
            | (go_at_call 17; refine (refnmay_any q1 q2 _ HSQ.out.1 HSQ.out.2).mono ?_; rintro e wr ⟨rfl, hb9⟩; rw [HY.out]; replace s0 := cell_keep s0 hb9; replace s1 := cell_keep s1 hb9; replace qx0 := cell_keep qx0 hb9; replace qx1 := cell_keep qx1 hb9; replace p0 := cell_keep p0 hb9; replace p1 := cell_keep p1 hb9; replace d0 := cell_keep d0 hb9; replace d1 := cell_keep d1 hb9; replace SK := Lib.hid (SK.out.below hb9); replace SP := Lib.hid (SP.out.below hb9); replace SD := Lib.hid (SD.out.below hb9); replace ST := Lib.hid (ST.out.belowB hb9); replace SQ := Lib.hid (SQ.out.belowB hb9); replace SE := Lib.hid (SE.out.belowB hb9); replace BB := Lib.hid (below_step BB.out hb9); clear hb9))
          refine rol_run (by kernel_rfl) [[], [], [], [], [1, 2, 3], [0, 1, 2, 3, 4], [0, 1, 2, 3, 4, 5], [0, 1, 2, 3, 4, 5, 6], [0, 1, 2, 3, 4, 5, 6, 7], [0, 1, 2, 3, 4, 5, 6, 7, 8], [0, 1, 2, 3, 4, 5, 6, 7, 8, 9]] (by kernel_rfl) [93, 94, 95, 96, 97, 98, 99, 100, 101, 102, 103] [[], [], [], [], [1, 2, 3], [0, 4], [5], [6], [7], [7, 8], [7, 9]] [0, 0, 0, 0, 1, 0, 0, 0, 0, 0, 0] [0, 0, 0, 0, 0, 0, 0, 0, 0, 0, 0] [1000, 1000, 1000, 1000, 1000, 1000, 1000, 1000, 1000, 1000, 1000] [.val 93 (.agg #[.slice pa np pc, .slice pb npt pd]), .val 94 (.agg #[.slice aK nK cK, .slice aT nT cT]), .val 95 (.agg #[.string (mkB q1), .string (mkB q2)]), .val 96 (.string (mkB t)), .mems 97 (stoG wr.heap.size P1 P2), .val 98 (.bool true), .val 99 (.bool false), .val 100 (.bool false), .val 101 (.int .i64 0), .val 102 (.bool false), .val 103 (.bool false)] (by kernel_rfl) ?_ (wr.heap.size) (wr.heap.size) rfl (Below.refl _ _) rfl (fun _ => 0) ?_ ?_ ?_
          · intro j hj
            have hj3 : j < 11 := hj
            have hj2 : j = 0 ∨ j = 1 ∨ j = 2 ∨ j = 3 ∨ j = 4 ∨ j = 5 ∨ j = 6 ∨ j = 7 ∨ j = 8 ∨ j = 9 ∨ j = 10 := by omega
            clear hj hj3
            rcases hj2 with rfl | rfl | rfl | rfl | rfl | rfl | rfl | rfl | rfl | rfl | rfl
            · exact trivial
            · exact trivial
            · exact trivial
            · exact trivial
            · exact stoG_near
            · exact trivial
            · exact trivial
            · exact trivial
            · exact trivial
            · exact trivial
            · exact trivial
          · intro j hj0 hj
            exact absurd hj (Nat.not_lt.2 hj0)
          · intro i hi a wx who hG hF
            have hz : a.tmps.size = 152 := hG.size
            have hi3 : i < 11 := hi
            have hi2 : i = 0 ∨ i = 1 ∨ i = 2 ∨ i = 3 ∨ i = 4 ∨ i = 5 ∨ i = 6 ∨ i = 7 ∨ i = 8 ∨ i = 9 ∨ i = 10 := by omega
            clear hi hi3
            rcases hi2 with rfl | rfl | rfl | rfl | rfl | rfl | rfl | rfl | rfl | rfl | rfl
            · exact rol_val rfl rfl rfl (by rw [hz]; decide) (ex_load rfl (eval_slot ((hG.slots 9 (by decide)).trans rfl)) (ld_sto (cell_keep p0 hG.below) (cell_keep p1 hG.below))) hG.below
            · exact rol_val rfl rfl rfl (by rw [hz]; decide) (ex_load rfl (eval_slot ((hG.slots 3 (by decide)).trans rfl)) (ld_sto (cell_keep s0 hG.below) (cell_keep s1 hG.below))) hG.below
            · exact rol_val rfl rfl rfl (by rw [hz]; decide) (ex_load rfl (eval_slot ((hG.slots 4 (by decide)).trans rfl)) (ld_node (cell_keep qx0 hG.below) (cell_keep qx1 hG.below))) hG.below
            · exact rol_val rfl rfl rfl (by rw [hz]; decide) (ex_move (Or.inl rfl) (eval_slot ((hG.slots 2 (by decide)).trans rfl))) hG.below
            · refine rol_calls rfl rfl rfl (by rw [hz]; decide) (ex_call rfl (by simp [eval_slot (hF 1 (by decide)), eval_slot (hF 2 (by decide)), eval_slot (hF 3 (by decide))]) x5) (refput_any aK aT nK cK nT cT K T q1 q2 t wx (SK.out.below hG.below) (ST.out.belowB hG.below) HSK.out HSQ.out HKB.out HX.out HY.out) ?_ hG.below hG.new
              rintro e w1 ⟨u, rfl, hso, hb1⟩
              rw [HP1.out, HP2.out] at hso
              obtain ⟨bs, hbs, hg⟩ := hso.toG hG.new
              exact ⟨u, rfl, hb1, .inr (.inr ⟨_, bs, rfl, hbs, hg⟩)⟩
            · obtain ⟨v, bs, hv, -, hp⟩ := hF 4 (by decide)
              obtain ⟨a8, c8, b8, d8, rfl, h1, h2⟩ := hp.own.forms
              refine rol_call rfl rfl rfl (by rw [hz]; decide) (ex_call rfl (by simp [eval_slot (hF 0 (by decide)), eval_slot hv]) x4) (refssame_any pa pb a8 b8 np pc npt pd _ c8 _ d8 P1 P1 P2 P2 wx (SP.out.below hG.below) (SQ.out.belowB hG.below) h1 h2) ?_ hG.below hG.new
              rintro e w1 ⟨rfl, hb1⟩
              rw [sameS_self]
              exact ⟨_, rfl, hb1, .inl rfl⟩
            · exact rol_val rfl rfl rfl (by rw [hz]; decide) (ex_un rfl (eval_slot (hF 5 (by decide))) rfl) hG.below
            · exact rol_val rfl rfl rfl (by rw [hz]; decide) (ex_move (Or.inl rfl) (eval_slot (hF 6 (by decide)))) hG.below
            · exact rol_val rfl (want_yes rfl rfl (hF 7 (by decide))) rfl (by rw [hz]; decide) (ex_move (Or.inl rfl) (eval_slot ((hG.slots 10 (by decide)).trans rfl))) hG.below
            · exact rol_val rfl (want_yes rfl rfl (hF 7 (by decide))) rfl (by rw [hz]; decide) (ex_bin rfl (eval_slot (hF 8 (by decide))) rfl (by go_simp) (by go_simp)) hG.below
            · exact rol_val rfl rfl rfl (by rw [hz]; decide) (ex_pick_no rfl (eval_slot (hF 7 (by decide))) (eval_slot (hF 9 (by decide)))) hG.below
          · intro a wx who hG hF
            have fv103 : a.tmps.getD 103 undef = .bool false := eval_slot (s := 103) (hF 10 (of_decide_eq_true (by kernel_rfl)) (of_decide_eq_true (by kernel_rfl)))
            have hbx := hG.below
            have hnx := hG.new
            rw [hG.frame]
            simp only [List.foldl_cons, List.foldl_nil, List.setIfInBounds_toArray, List.set_cons_zero, List.set_cons_succ]
            generalize a.tmps.getD 93 undef = u93
            generalize a.tmps.getD 94 undef = u94
            generalize a.tmps.getD 95 undef = u95
            generalize a.tmps.getD 96 undef = u96
            generalize a.tmps.getD 97 undef = u97
            generalize a.tmps.getD 98 undef = u98
            generalize a.tmps.getD 99 undef = u99
            generalize a.tmps.getD 100 undef = u100
            generalize a.tmps.getD 101 undef = u101
            generalize a.tmps.getD 102 undef = u102
            rw [fv103]
            clear hF hG fv103
            replace s0 := cell_keep s0 hbx; replace s1 := cell_keep s1 hbx; replace qx0 := cell_keep qx0 hbx; replace qx1 := cell_keep qx1 hbx; replace p0 := cell_keep p0 hbx; replace p1 := cell_keep p1 hbx; replace d0 := cell_keep d0 hbx; replace d1 := cell_keep d1 hbx; replace SK := Lib.hid (SK.out.below hbx); replace SP := Lib.hid (SP.out.below hbx); replace SD := Lib.hid (SD.out.below hbx); replace ST := Lib.hid (ST.out.belowB hbx); replace SQ := Lib.hid (SQ.out.belowB hbx); replace SE := Lib.hid (SE.out.belowB hbx); replace BB := Lib.hid (below_step BB.out hbx)
            clear hbx hnx
            go_upto_region 12 with (go_at_call 20; refine (place_any aK aT nK cK nT cT K T q1 q2 _ SK.out ST.out).mono ?_; rintro e wr ⟨⟨r, rfl, hr⟩, hb9⟩; replace s0 := cell_keep s0 hb9; replace s1 := cell_keep s1 hb9; replace qx0 := cell_keep qx0 hb9; replace qx1 := cell_keep qx1 hb9; replace p0 := cell_keep p0 hb9; replace p1 := cell_keep p1 hb9; replace d0 := cell_keep d0 hb9; replace d1 := cell_keep d1 hb9; replace SK := Lib.hid (SK.out.below hb9); replace SP := Lib.hid (SP.out.below hb9); replace SD := Lib.hid (SD.out.below hb9); replace ST := Lib.hid (ST.out.belowB hb9); replace SQ := Lib.hid (SQ.out.belowB hb9); replace SE := Lib.hid (SE.out.belowB hb9); replace BB := Lib.hid (below_step BB.out hb9); clear hb9)
            rcases hr with ⟨rfl, hf⟩ | ⟨k, rfl, hk, hkk⟩
            · have h1 := HGE.out
              have h4 := HDE.out
              rw [getE_out HX.out HY.out hf] at h1
              rw [dropE_out HX.out HY.out hf] at h4
              obtain ⟨rfl, rfl⟩ := Prod.mk.inj h1
              obtain ⟨rfl, h5⟩ := Prod.mk.inj h4
              obtain ⟨rfl, rfl⟩ := Prod.mk.inj h5
              clear h1 h4 h5 hf
              have hq0 : (mkB []).toList = [] := by decide +kernel
              go_wp2_with (first
                | (go_at_call 16; refine (refssame_any da db aK aT _ dc _ dd nK cK nT cT K K T T _ SD.out SE.out SK.out ST.out).mono ?_; rintro e w9 ⟨rfl, hb9⟩; rw [sameS_self]; replace s0 := cell_keep s0 hb9; replace s1 := cell_keep s1 hb9; replace qx0 := cell_keep qx0 hb9; replace qx1 := cell_keep qx1 hb9; replace p0 := cell_keep p0 hb9; replace p1 := cell_keep p1 hb9; replace d0 := cell_keep d0 hb9; replace d1 := cell_keep d1 hb9; replace SK := Lib.hid (SK.out.below hb9); replace SP := Lib.hid (SP.out.below hb9); replace SD := Lib.hid (SD.out.below hb9); replace ST := Lib.hid (ST.out.belowB hb9); replace SQ := Lib.hid (SQ.out.belowB hb9); replace SE := Lib.hid (SE.out.belowB hb9); replace BB := Lib.hid (below_step BB.out hb9); clear hb9)
                | (go_at_call 18; refine (sawake_any _).mono ?_; rintro e w9 ⟨rfl, hb9⟩; replace BB := Lib.hid (below_step BB.out hb9); clear hb9))
              go_ret
              exact ⟨rfl, BB.out⟩
            · obtain ⟨hge, hf, hkT⟩ := get_place HX.out (by rw [HNK.out]; exact hk) hkk
              have h1 := HGE.out
              rw [hge] at h1
              obtain ⟨hg1, rfl⟩ := Prod.mk.inj h1
              obtain ⟨z1, z2, z3⟩ := okS_zip HX.out
              have h4 := HDE.out
              have e6 := dropE_yes (S := K.zip T) (n := (q1, q2)) z3 HY.out
              have hhas : hasP (K.zip T) (q1, q2) = true := by unfold hasP; rw [z1]; exact hf
              rw [z1, z2, hhas, if_pos rfl] at e6
              rw [e6] at h4
              obtain ⟨hd1, h5⟩ := Prod.mk.inj h4
              obtain ⟨hd2, rfl⟩ := Prod.mk.inj h5
              obtain ⟨bt, qt, rfl, -, yt⟩ := strs_at ST.out k hkT
              rw [hg1] at yt
              rw [HNT.out] at hkT
              have HKT := Lib.hid hkT; have HD1 := Lib.hid hd1; have HD2 := Lib.hid hd2
              have hk0 : ¬ (k : Int) < 0 := by omega
              clear h1 h4 h5 e6 hhas hge hf hkk z1 z2 z3 hg1 hd1 hd2 hkT
              go_upto_region 14 with fail
              refine rol_run (by kernel_rfl) [[], [], [1], [], [1, 2, 3], [1, 2, 3, 4], [0, 1, 2, 3, 4, 5], [0, 1, 2, 3, 4, 5, 6], [0, 1, 2, 3, 4, 5, 6, 7], [0, 1, 2, 3, 4, 5, 6, 7, 8], [0, 1, 2, 3, 4, 5, 6, 7, 8, 9], [0, 1, 2, 3, 4, 5, 6, 7, 8, 9, 10], [0, 1, 2, 3, 4, 5, 6, 7, 8, 9, 10, 11], [0, 1, 2, 3, 4, 5, 6, 7, 8, 9, 10, 11], [0, 1, 2, 3, 4, 5, 6, 7, 8, 9, 10, 11], [0, 1, 2, 3, 4, 5, 6, 7, 8, 9, 10, 11, 13, 14], [0, 1, 2, 3, 4, 5, 6, 7, 8, 9, 10, 11, 12, 13, 14, 15], [0, 1, 2, 3, 4, 5, 6, 7, 8, 9, 10, 11, 12, 13, 14, 15, 16], [0, 1, 2, 3, 4, 5, 6, 7, 8, 9, 10, 11, 12, 13, 14, 15, 16, 17], [0, 1, 2, 3, 4, 5, 6, 7, 8, 9, 10, 11, 12, 13, 14, 15, 16, 17, 18], [0, 1, 2, 3, 4, 5, 6, 7, 8, 9, 10, 11, 12, 13, 14, 15, 16, 17, 18, 19], [0, 1, 2, 3, 4, 5, 6, 7, 8, 9, 10, 11, 12, 13, 14, 15, 16, 17, 18, 19, 20], [0, 1, 2, 3, 4, 5, 6, 7, 8, 9, 10, 11, 12, 13, 14, 15, 16, 17, 18, 19, 20, 21], [0, 1, 2, 3, 4, 5, 6, 7, 8, 9, 10, 11, 12, 13, 14, 15, 16, 17, 18, 19, 20, 21, 22], [0, 1, 2, 3, 4, 5, 6, 7, 8, 9, 10, 11, 12, 13, 14, 15, 16, 17, 18, 19, 20, 21, 22, 23], [0, 1, 2, 3, 4, 5, 6, 7, 8, 9, 10, 11, 12, 13, 14, 15, 16, 17, 18, 19, 20, 21, 22, 23, 24]] (by kernel_rfl) [127, 128, 129, 130, 131, 132, 133, 134, 135, 136, 137, 138, 139, 140, 141, 142, 143, 144, 145, 146, 147, 148, 149, 150, 151, 6] [[], [], [1], [], [2, 3], [4], [0, 5], [6], [7], [7, 8], [7, 9], [10], [11], [11], [11], [11, 13, 14], [11, 12, 15], [11, 16], [17], [18], [18, 19], [18, 20], [21], [22], [22, 23], [24]] [0, 0, 0, 0, 0, 0, 0, 0, 0, 0, 0, 0, 0, 0, 0, 1, 0, 0, 0, 0, 0, 0, 0, 0, 0, 0] [0, 0, 0, 0, 0, 0, 0, 0, 0, 0, 0, 0, 0, 0, 0, 0, 0, 0, 0, 0, 0, 0, 0, 0, 0, 0] [1000, 1000, 1000, 1000, 1000, 1000, 1000, 1000, 1000, 1000, 1000, 1000, 1000, 1000, 1000, 1000, 1000, 1000, 1000, 1000, 1000, 1000, 1000, 1000, 1000, 1000] [.val 127 (.string (mkB G1)), .val 128 (.pointer (some ⟨gs, 1, none⟩)), .val 129 (.slice (some ⟨bt, qt, none⟩) nT cT), .val 130 (.int .i64 (k : Int)), .val 131 (.pointer (some ⟨bt, qt + k, none⟩)), .val 132 (.string (mkB G1)), .val 133 (.bool true), .val 134 (.bool true), .val 135 (.int .i64 0), .val 136 (.bool true), .val 137 (.bool true), .val 138 (.bool true), .val 139 (.agg #[.slice da nd dc, .slice db ndt dd]), .val 140 (.agg #[.slice aK nK cK, .slice (some ⟨bt, qt, none⟩) nT cT]), .val 141 (.agg #[.string (mkB q1), .string (mkB q2)]), .mems 142 (stoG wr.heap.size D1 D2), .val 143 (.bool true), .val 144 (.bool true), .val 145 (.bool true), .val 146 (.int .i64 0), .val 147 (.bool true), .val 148 (.bool true), .val 149 (.bool true), .val 150 (.bool true), .val 151 (.bool true), .val 6 (.bool true)] (by kernel_rfl) ?_ (wr.heap.size) (wr.heap.size) rfl (Below.refl _ _) rfl (fun _ => 0) ?_ ?_ ?_
              · intro j hj
                have hj3 : j < 26 := hj
                have hj2 : j = 0 ∨ j = 1 ∨ j = 2 ∨ j = 3 ∨ j = 4 ∨ j = 5 ∨ j = 6 ∨ j = 7 ∨ j = 8 ∨ j = 9 ∨ j = 10 ∨ j = 11 ∨ j = 12 ∨ j = 13 ∨ j = 14 ∨ j = 15 ∨ j = 16 ∨ j = 17 ∨ j = 18 ∨ j = 19 ∨ j = 20 ∨ j = 21 ∨ j = 22 ∨ j = 23 ∨ j = 24 ∨ j = 25 := by omega
                clear hj hj3
                rcases hj2 with rfl | rfl | rfl | rfl | rfl | rfl | rfl | rfl | rfl | rfl | rfl | rfl | rfl | rfl | rfl | rfl | rfl | rfl | rfl | rfl | rfl | rfl | rfl | rfl | rfl | rfl
                · exact trivial
                · exact trivial
                · exact trivial
                · exact trivial
                · exact trivial
                · exact trivial
                · exact trivial
                · exact trivial
                · exact trivial
                · exact trivial
                · exact trivial
                · exact trivial
                · exact trivial
                · exact trivial
                · exact trivial
                · exact stoG_near
                · exact trivial
                · exact trivial
                · exact trivial
                · exact trivial
                · exact trivial
                · exact trivial
                · exact trivial
                · exact trivial
                · exact trivial
                · exact trivial
              · intro j hj0 hj
                exact absurd hj (Nat.not_lt.2 hj0)
              · intro i hi a wx who hG hF
                have hz : a.tmps.size = 152 := hG.size
                have hi3 : i < 26 := hi
                have hi2 : i = 0 ∨ i = 1 ∨ i = 2 ∨ i = 3 ∨ i = 4 ∨ i = 5 ∨ i = 6 ∨ i = 7 ∨ i = 8 ∨ i = 9 ∨ i = 10 ∨ i = 11 ∨ i = 12 ∨ i = 13 ∨ i = 14 ∨ i = 15 ∨ i = 16 ∨ i = 17 ∨ i = 18 ∨ i = 19 ∨ i = 20 ∨ i = 21 ∨ i = 22 ∨ i = 23 ∨ i = 24 ∨ i = 25 := by omega
                clear hi hi3
                rcases hi2 with rfl | rfl | rfl | rfl | rfl | rfl | rfl | rfl | rfl | rfl | rfl | rfl | rfl | rfl | rfl | rfl | rfl | rfl | rfl | rfl | rfl | rfl | rfl | rfl | rfl | rfl
                · exact rol_val rfl rfl rfl (by rw [hz]; decide) (ex_move (Or.inl rfl) (eval_slot ((hG.slots 7 (by decide)).trans rfl))) hG.below
                · exact rol_val rfl rfl rfl (by rw [hz]; decide) (ex_field rfl (eval_slot ((hG.slots 3 (by decide)).trans rfl)) (by go_simp)) hG.below
                · exact rol_val rfl rfl rfl (by rw [hz]; decide) (ex_load rfl (eval_slot (hF 1 (by decide))) (ld_sts (cell_keep s1 hG.below))) hG.below
                · exact rol_val rfl rfl rfl (by rw [hz]; decide) (ex_move (Or.inl rfl) (eval_slot ((hG.slots 13 (by decide)).trans rfl))) hG.below
                · exact rol_val rfl rfl rfl (by rw [hz]; decide) (ex_index rfl (eval_slot (hF 2 (by decide))) (eval_slot (hF 3 (by decide))) (idx_sts HKT.out)) hG.below
                · exact rol_val rfl rfl rfl (by rw [hz]; decide) (ex_load rfl (eval_slot (hF 4 (by decide))) (ld_str (cell_keep yt hG.below))) hG.below
                · exact rol_val rfl rfl rfl (by rw [hz]; decide) (ex_bin rfl (eval_slot (hF 0 (by decide))) (eval_slot (hF 5 (by decide))) (by go_simp) (eql_str_self _)) hG.below
                · exact rol_val rfl rfl rfl (by rw [hz]; decide) (ex_move (Or.inl rfl) (eval_slot (hF 6 (by decide)))) hG.below
                · exact rol_val rfl (want_yes rfl rfl (hF 7 (by decide))) rfl (by rw [hz]; decide) (ex_move (Or.inl rfl) (eval_slot ((hG.slots 8 (by decide)).trans rfl))) hG.below
                · exact rol_val rfl (want_yes rfl rfl (hF 7 (by decide))) rfl (by rw [hz]; decide) (ex_bin rfl (eval_slot (hF 8 (by decide))) rfl (by go_simp) (by go_simp)) hG.below
                · exact rol_val rfl rfl rfl (by rw [hz]; decide) (ex_pick_yes rfl (eval_slot (hF 7 (by decide))) (eval_slot (hF 9 (by decide)))) hG.below
                · exact rol_val rfl rfl rfl (by rw [hz]; decide) (ex_move (Or.inl rfl) (eval_slot (hF 10 (by decide)))) hG.below
                · exact rol_val rfl (want_yes rfl rfl (hF 11 (by decide))) rfl (by rw [hz]; decide) (ex_load rfl (eval_slot ((hG.slots 11 (by decide)).trans rfl)) (ld_sto (cell_keep d0 hG.below) (cell_keep d1 hG.below))) hG.below
                · exact rol_val rfl (want_yes rfl rfl (hF 11 (by decide))) rfl (by rw [hz]; decide) (ex_load rfl (eval_slot ((hG.slots 3 (by decide)).trans rfl)) (ld_sto (cell_keep s0 hG.below) (cell_keep s1 hG.below))) hG.below
                · exact rol_val rfl (want_yes rfl rfl (hF 11 (by decide))) rfl (by rw [hz]; decide) (ex_load rfl (eval_slot ((hG.slots 4 (by decide)).trans rfl)) (ld_node (cell_keep qx0 hG.below) (cell_keep qx1 hG.below))) hG.below
                · refine rol_calls rfl (want_yes rfl rfl (hF 11 (by decide))) rfl (by rw [hz]; decide) (ex_call rfl (by simp [eval_slot (hF 13 (by decide)), eval_slot (hF 14 (by decide))]) x6) (refdrop_any aK (some ⟨bt, qt, none⟩) nK cK nT cT K T q1 q2 wx (SK.out.below hG.below) (ST.out.belowB hG.below) HKB.out HNN.out) ?_ hG.below hG.new
                  rintro e w1 ⟨u, rfl, hso, hb1⟩
                  rw [HD1.out, HD2.out] at hso
                  obtain ⟨bs, hbs, hg⟩ := hso.toG hG.new
                  exact ⟨u, rfl, hb1, .inr (.inr ⟨_, bs, rfl, hbs, hg⟩)⟩
                · obtain ⟨v, bs, hv, -, hp⟩ := hF 15 (by decide)
                  obtain ⟨a8, c8, b8, d8, rfl, h1, h2⟩ := hp.own.forms
                  refine rol_call rfl (want_yes rfl rfl (hF 11 (by decide))) rfl (by rw [hz]; decide) (ex_call rfl (by simp [eval_slot (hF 12 (by decide)), eval_slot hv]) x4) (refssame_any da db a8 b8 nd dc ndt dd _ c8 _ d8 D1 D1 D2 D2 wx (SD.out.below hG.below) (SE.out.belowB hG.below) h1 h2) ?_ hG.below hG.new
                  rintro e w1 ⟨rfl, hb1⟩
                  rw [sameS_self]
                  exact ⟨_, rfl, hb1, .inl rfl⟩
                · exact rol_val rfl rfl rfl (by rw [hz]; decide) (ex_pick_yes rfl (eval_slot (hF 11 (by decide))) (eval_slot (hF 16 (by decide)))) hG.below
                · exact rol_val rfl rfl rfl (by rw [hz]; decide) (ex_move (Or.inl rfl) (eval_slot (hF 17 (by decide)))) hG.below
                · exact rol_val rfl (want_yes rfl rfl (hF 18 (by decide))) rfl (by rw [hz]; decide) (ex_move (Or.inl rfl) (eval_slot ((hG.slots 12 (by decide)).trans rfl))) hG.below
                · exact rol_val rfl (want_yes rfl rfl (hF 18 (by decide))) rfl (by rw [hz]; decide) (ex_bin rfl (eval_slot (hF 19 (by decide))) rfl (by go_simp) (by go_simp)) hG.below
                · exact rol_val rfl rfl rfl (by rw [hz]; decide) (ex_pick_yes rfl (eval_slot (hF 18 (by decide))) (eval_slot (hF 20 (by decide)))) hG.below
                · exact rol_val rfl rfl rfl (by rw [hz]; decide) (ex_move (Or.inl rfl) (eval_slot (hF 21 (by decide)))) hG.below
                · refine rol_call rfl (want_yes rfl rfl (hF 22 (by decide))) rfl (by rw [hz]; decide) (ex_call rfl (by simp) x7) (sawake_any wx) ?_ hG.below hG.new
                  rintro e w1 ⟨rfl, hb1⟩
                  exact ⟨_, rfl, hb1, .inl rfl⟩
                · exact rol_val rfl rfl rfl (by rw [hz]; decide) (ex_pick_yes rfl (eval_slot (hF 22 (by decide))) (eval_slot (hF 23 (by decide)))) hG.below
                · exact rol_val rfl rfl rfl (by rw [hz]; decide) (ex_move (Or.inr rfl) (eval_slot (hF 24 (by decide)))) hG.below
              · intro a wx who hG hF
                have fv6 : a.tmps.getD 6 undef = .bool true := eval_slot (s := 6) (hF 25 (of_decide_eq_true (by kernel_rfl)) (of_decide_eq_true (by kernel_rfl)))
                have hbx := hG.below
                have hnx := hG.new
                rw [hG.frame]
                simp only [List.foldl_cons, List.foldl_nil, List.setIfInBounds_toArray, List.set_cons_zero, List.set_cons_succ]
                generalize a.tmps.getD 127 undef = u127
                generalize a.tmps.getD 128 undef = u128
                generalize a.tmps.getD 129 undef = u129
                generalize a.tmps.getD 130 undef = u130
                generalize a.tmps.getD 131 undef = u131
                generalize a.tmps.getD 132 undef = u132
                generalize a.tmps.getD 133 undef = u133
                generalize a.tmps.getD 134 undef = u134
                generalize a.tmps.getD 135 undef = u135
                generalize a.tmps.getD 136 undef = u136
                generalize a.tmps.getD 137 undef = u137
                generalize a.tmps.getD 138 undef = u138
                generalize a.tmps.getD 139 undef = u139
                generalize a.tmps.getD 140 undef = u140
                generalize a.tmps.getD 141 undef = u141
                generalize a.tmps.getD 142 undef = u142
                generalize a.tmps.getD 143 undef = u143
                generalize a.tmps.getD 144 undef = u144
                generalize a.tmps.getD 145 undef = u145
                generalize a.tmps.getD 146 undef = u146
                generalize a.tmps.getD 147 undef = u147
                generalize a.tmps.getD 148 undef = u148
                generalize a.tmps.getD 149 undef = u149
                generalize a.tmps.getD 150 undef = u150
                generalize a.tmps.getD 151 undef = u151
                rw [fv6]
                clear hF hG fv6
                go_wp2
                go_ret
                exact ⟨rfl, below_step BB.out hbx⟩

theorem own : ownKnob Try.prog.godebug = none := by kernel_rfl
theorem laidOut : laidOutB Try.prog = true := by kernel_rfl

set_option maxRecDepth 100000 in
theorem lifted (os : Os) (started : os.Started) (H : Type) (enc : TypeId × Value → H) :
    ReturnsInHanded {} Try.checked os 3 .any (Rows.storeTellsSpec.pre6 enc Try.prog Try.f3 Rows.storeTellsRow.domain false) (Rows.storeTellsSpec.post enc Try.prog Try.f3 false true false false) := by
  refine returnsInHanded_of_change (C := Try.checked) own started (by kernel_rfl) Try.func3
    (ChangeSpec.witness6 (enc := enc) (C := Try.checked) false ⟨#[], #[.agg #[.slice none 0 0, .slice none 0 0], .agg #[.string ByteArray.empty, .string ByteArray.empty], .string ByteArray.empty], []⟩ 8 (by kernel_rfl) (by kernel_rfl) (by kernel_rfl) (by kernel_rfl)) ?_
  intro W base args ds gs before hval0 hW hcnd _
  have hval : ∀ (j : Nat) t v, Try.f3.params[j]? = some t → args[j]? = some v → Value.okWide Try.prog W .any base t v := hval0
  have hW' := hW
  obtain ⟨p, q, hA0, hV, rfl, hfz, hnd⟩ := hW
  have hA : DataW.TrodAll enc Try.prog W 0 (fun _ => true) true Try.f3.params.toList args.toList ds p := hA0
  rw [Try.params3] at hA hval
  obtain ⟨v0, vs0, d0, ds0, p0, q0, hargs, rfl, rfl, h0, r0⟩ := trodAll_cons hA
  obtain ⟨v1, vs1, d1, ds1, p1, q1, rfl, rfl, rfl, h1, r1⟩ := trodAll_cons r0
  obtain ⟨v2, vs2, d2, ds2, p2, q2, rfl, rfl, rfl, h2, r2⟩ := trodAll_cons r1
  obtain ⟨rfl, rfl, rfl⟩ := trodAll_nil r2
  obtain rfl : args = #[v0, v1, v2] := by cases args; simp_all
  obtain ⟨rfl, rfl⟩ := trodVars_none hV
  have k0 := h0
  have lt0 : ∀ x ∈ p0, x.block < W.heap.size := by obtain ⟨m, hm⟩ := k0; exact DataW.trod_lt m _ _ _ hm
  obtain ⟨z0, w0⟩ := sto_open (hval 0 25 v0 rfl rfl) h0
  have k1 := h1
  have lt1 : ∀ x ∈ p1, x.block < W.heap.size := by obtain ⟨m, hm⟩ := k1; exact DataW.trod_lt m _ _ _ hm
  obtain ⟨z1, w1⟩ := node_open (hval 1 27 v1 rfl rfl) h1
  obtain ⟨a2, rfl, rfl, rfl, w2⟩ := open_string Try.underlying9 (hval 2 9 v2 rfl rfl) h2
  clear hA0 hval0
  refine (walk _ z0 _ z1 a2 W w0 w1 w2).mono fun e W' ⟨he, bel⟩ => ?_
  subst he
  exact ⟨_, rfl, _, _, _, [], _, [], hW', trodAll_mk1 (shut_bool Try.underlying4 _), (trodAll_cons_mk (Below.trod laidOut (by kernel_rfl) (of_decide_eq_true (by kernel_rfl)) k0 bel lt0) (trodAll_cons_mk (Below.trod laidOut (by kernel_rfl) (of_decide_eq_true (by kernel_rfl)) k1 bel lt1) (trodAll_cons_mk (shut_string Try.underlying9 w2) trodAll_mk0))), rfl, bel.frame _, fun h => by cases h⟩

-- the given statement
theorem proved : Rows.StoreTellsSaid :=
  OpenClaim.holds_of_wide 3 Try.f3 rfl rfl rfl rfl rfl rfl rfl ⟨rfl, rfl, rfl, rfl, rfl⟩ rfl rfl rfl rfl rfl (by kernel_rfl) Try.func3 (by kernel_rfl)
    (of_decide_eq_true (by kernel_rfl)) (by unfold Func.isWrapper; first | (rw [if_pos (by decide +kernel)]; kernel_rfl) | (rw [if_neg (by decide +kernel)]; exact ⟨rfl, rfl⟩))
    (fun os started H enc _ => lifted os started H enc)
end Go.Proofs.Ytceefoiffkgliaa.storeTells
