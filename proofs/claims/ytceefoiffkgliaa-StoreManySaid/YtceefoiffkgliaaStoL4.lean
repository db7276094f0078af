/- Of every store, every node and every text (no more, and no longer, than are looked at): a store has one more behind a Put of a node that had none, as many behind one that had, and each of its keys has the text beside it; no condition. -/
import Derived.Test.YtceefoiffkgliaaRows
import Derived.Test.YtceefoiffkgliaaStoS
import Derived.ProofKit
import Derived.OpenShut
import Derived.ShutString
import Derived.ChangeOld
namespace Go.Proofs.Ytceefoiffkgliaa.storeMany
open Go.ChangeShapes Go.WideShapes Go.ChangeAt Go.RowKit
open Go.ChangeMaps (open_string shut_string)
set_option maxRecDepth 100000
set_option linter.unusedVariables false

set_option maxRecDepth 100000 in
set_option maxHeartbeats 6400000 in
theorem walk (M : Value) (x : List Nd × List (List UInt8)) (V : Value) (q : Nd) (a : ByteArray) (w : World) (hM : StoIn w M x.1 x.2) (hV : V = .agg #[.string (mkB q.1), .string (mkB q.2)] ∧ fitsN q) (ha : a.size ≤ maxLen) :
    Calls Try.prog 6 #[M, V, .string a] w fun e w' => e = .returned (.bool true) ∧ Below w.heap.size w w' := by
  obtain ⟨⟨A, n, c, B, m, d, rfl, hk, ht⟩, fK, fT⟩ := hM
  obtain ⟨K0, T0⟩ := x
  simp only at hk ht fK fT
  obtain ⟨rfl, fq⟩ := hV
  obtain ⟨pq, vq⟩ := q
  simp only at fq ⊢
  obtain ⟨t, rfl, -⟩ := mkB_all a
  have hsq := oneN_smallQ (pq, vq)
  have hoq := fun w => one_any pq vq w fq.1 fq.2
  obtain ⟨q1, hq1⟩ : ∃ r, fewL pq = r := ⟨_, rfl⟩
  obtain ⟨q2, hq2⟩ : ∃ r, fewL vq = r := ⟨_, rfl⟩
  simp only at hsq
  rw [hq1, hq2] at hsq hoq
  have hkl := fewNs_len K0; have htl := fewTs_len T0; have hks := fewNs_small K0
  have hfw := fun w h h' => sfew_any A B n c m d K0 T0 w h h' fK fT
  obtain ⟨K, hK⟩ : ∃ r, fewNs K0 = r := ⟨_, rfl⟩
  obtain ⟨T, hT⟩ : ∃ r, fewTs T0 = r := ⟨_, rfl⟩
  rw [hK] at hkl hks hfw
  rw [hT] at htl hfw
  obtain ⟨nK, hnK⟩ : ∃ r, K.length = r := ⟨_, rfl⟩
  obtain ⟨nT, hnT⟩ : ∃ r, T.length = r := ⟨_, rfl⟩
  rw [hnK] at hkl
  rw [hnT] at htl
  obtain ⟨W, gs, gq, hW, hg, hg', r0, r1, hb⟩ := boxS2 w (.slice A n c) (.slice B m d) (.string (mkB pq)) (.string (mkB vq)) 25 27
  have SK0 := Lib.hid hk; have ST0 := Lib.hid ht; have RS := Lib.hid r0; have RNq := Lib.hid r1; have HFW := Lib.hid hfw; have HOq := Lib.hid hoq; have HNK := Lib.hid hnK; have HNT := Lib.hid hnT; have HSQ := Lib.hid hsq; have HSK := Lib.hid hks
  have HLgs := Lib.hid (show w.heap.size ≤ gs by omega); have HLq := Lib.hid (show w.heap.size ≤ gq by omega); have Hqgs := Lib.hid (show ¬ gq = gs by omega)
  have BB := Lib.hid hb; have HW := Lib.hid hW; have HG := Lib.hid hg; have HG' := Lib.hid hg'
  clear hk ht r0 r1 hfw hoq hnK hnT hsq hks hb hW hg hg' hK hT hq1 hq2 fK fT fq
  have e1 : ∀ args w, (callFunc 8 args).run Try.prog w = .ok (.enter 8 args) w := enters_of Try.func8 (by kernel_rfl) rfl
  have e2 : ∀ args w, (callFunc 9 args).run Try.prog w = .ok (.enter 9 args) w := enters_of Try.func9 (by kernel_rfl) rfl
  go_enter Try.func6, Try.ntmps6
  go_upto_region 1 with fail
  rw [HW.out, HG'.out, HG.out]
  refine rol_run (by kernel_rfl) [[], [0], [], [0, 1, 2], [0, 1, 2, 3], [0, 1, 2, 3, 4]] (by kernel_rfl) [15, 16, 17, 18] [[6], [0], [7], [2], [1, 6], [3, 7]] [0, 1, 0, 0, 3, 4, 3, 4] [0, 0, 0, 0, 3, 4] [1000, 1000, 1000, 1000, 1000, 1000, 4, 5] [.val 15 (.agg #[.slice A n c, .slice B m d]), .mems 16 (stoG W.heap.size K T), .val 17 (.agg #[.string (mkB pq), .string (mkB vq)]), .val 18 (.agg #[.string (mkB q1), .string (mkB q2)]), .mem 16 (boxG gs 25), .box (gq) (.cells #[.string (mkB q1), .string (mkB q2)] 27), .box (gs) (.cells #[.slice A n c, .slice B m d] 25), .box (gq) (.cells #[.string (mkB pq), .string (mkB vq)] 27)] (by kernel_rfl) ?_ (w.heap.size) (W.heap.size) rfl BB.out rfl (fun k => if k = gs then 3 else if k = gq then 4 else 0) ?_ ?_ ?_
  · intro j hj
    have hj3 : j < 8 := hj
    have hj2 : j = 0 ∨ j = 1 ∨ j = 2 ∨ j = 3 ∨ j = 4 ∨ j = 5 ∨ j = 6 ∨ j = 7 := by omega
    clear hj hj3
    rcases hj2 with rfl | rfl | rfl | rfl | rfl | rfl | rfl | rfl
    · exact trivial
    · exact stoG_near
    · exact trivial
    · exact trivial
    · exact boxG_near
    · exact trivial
    · exact trivial
    · exact trivial
  · intro j hj0 hj
    have hj1 : 6 ≤ j := hj0
    have hj3 : j < 8 := hj
    have hj2 : j = 6 ∨ j = 7 := by omega
    clear hj0 hj hj1 hj3
    rcases hj2 with rfl | rfl
    · exact ⟨RS.out, if_pos rfl⟩
    · exact ⟨RNq.out, (if_neg Hqgs.out).trans (if_pos rfl)⟩
  · intro i hi a wx who hG hF
    have hz : a.tmps.size = 87 := hG.size
    have hi3 : i < 6 := hi
    have hi2 : i = 0 ∨ i = 1 ∨ i = 2 ∨ i = 3 ∨ i = 4 ∨ i = 5 := by omega
    clear hi hi3
    rcases hi2 with rfl | rfl | rfl | rfl | rfl | rfl
    · exact rol_val rfl rfl rfl (by rw [hz]; decide) (ex_load rfl (eval_slot ((hG.slots 3 (by decide)).trans rfl)) (ld_sto (row2 (hF 6 (by decide)).1).1 (row2 (hF 6 (by decide)).1).2.1)) hG.below
    · refine rol_calls rfl rfl rfl (by rw [hz]; decide) (ex_call rfl (by simp [eval_slot (hF 0 (by decide))]) e1) (HFW.out wx (Nds.below SK0.out hG.below) (Strs.belowB ST0.out hG.below)) ?_ hG.below (Nat.le_trans BB.out.size hG.new)
      rintro e w1 ⟨u, rfl, hso, hb1⟩
      obtain ⟨bs, hbs, hg⟩ := hso.toG hG.new
      exact ⟨u, rfl, hb1, .inr (.inr ⟨_, bs, rfl, hbs, hg⟩)⟩
    · exact rol_val rfl rfl rfl (by rw [hz]; decide) (ex_load rfl (eval_slot ((hG.slots 4 (by decide)).trans rfl)) (ld_node (row2 (hF 7 (by decide)).1).1 (row2 (hF 7 (by decide)).1).2.1)) hG.below
    · refine rol_calls rfl rfl rfl (by rw [hz]; decide) (ex_call rfl (by simp [eval_slot (hF 2 (by decide))]) e2) (HOq.out wx) ?_ hG.below (Nat.le_trans BB.out.size hG.new)
      rintro e w1 ⟨rfl, hb1⟩
      exact ⟨_, rfl, hb1, .inl rfl⟩
    · exact rol_box rfl rfl rfl rfl (eval_slot ((hG.slots 3 (by decide)).trans rfl)) (hF 1 (by decide)) (hF 6 (by decide)) hG.below HLgs.out
    · exact rol_box_node rfl rfl rfl rfl (eval_slot ((hG.slots 4 (by decide)).trans rfl)) (eval_slot (hF 3 (by decide))) (hF 7 (by decide)) hG.below HLq.out
  · intro a wx who hG hF
    obtain ⟨v16, bs16, fv16, fo16, fp16⟩ := hF 1 (of_decide_eq_true (by kernel_rfl)) (of_decide_eq_true (by kernel_rfl))
    replace fv16 : a.tmps.getD 16 undef = v16 := eval_slot (s := 16) fv16
    have hbox := hF 4 (of_decide_eq_true (by kernel_rfl)) (of_decide_eq_true (by kernel_rfl))
    have hbn0 := hF 5 (of_decide_eq_true (by kernel_rfl)) (of_decide_eq_true (by kernel_rfl))
    obtain ⟨p11, ob11, hp11, -, -, x11, y11, hv11, hrow11⟩ := hbox
    have e11 : v16 = p11 := fv16.symm.trans (eval_slot hp11)
    subst e11
    clear hp11 ob11
    replace hbn0 := hbn0.1
    have hbx := hG.below
    have hnx := hG.new
    rw [hG.frame]
    simp only [List.foldl_cons, List.foldl_nil, List.setIfInBounds_toArray, List.set_cons_zero, List.set_cons_succ]
    generalize a.tmps.getD 15 undef = u15
    rw [fv16]
    generalize a.tmps.getD 17 undef = u17
    generalize a.tmps.getD 18 undef = u18
    clear hF hG fv16
    obtain ⟨aK, cK, aT, cT, hv1, hn1, ht1⟩ := fp16.own.forms
    rw [hv11] at hv1
    injection hv1 with hv1
    injection hv1 with hv1
    injection hv1 with hv1 hv2
    injection hv2 with hv2
    subst hv1 hv2 hv11
    obtain ⟨s0, s1, -, -⟩ := row2 hrow11
    rw [HNK.out] at hn1 s0 ⊢
    rw [HNT.out] at ht1 s1 ⊢
    obtain ⟨qx0, qx1, -, -⟩ := row2 hbn0
    have SK := Lib.hid hn1; have ST := Lib.hid ht1
    replace BB := Lib.hid hbx
    clear fp16 fo16 hrow11 hn1 ht1 hbx hnx hbn0 SK0 ST0 RS RNq HFW HOq e1 e2 HLgs HLq
    have kget := fun w h h' => sget_any aK aT nK cK nT cT K T q1 q2 w h h' HSK.out HSQ.out (by omega)
    have kput := fun w h h' => sput_any aK aT nK cK nT cT K T q1 q2 t w h h' HSK.out HSQ.out (by omega) (by omega)
    obtain ⟨G, hG⟩ : ∃ r, getE K T (q1, q2) = r := ⟨_, rfl⟩
    obtain ⟨P, hP⟩ : ∃ r, putE K T (q1, q2) t = r := ⟨_, rfl⟩
    have hpl := putE_len (n := (q1, q2)) (t := t) (m := 24) (by rw [HNK.out]; exact hkl) (by rw [HNT.out]; exact htl)
    have hps := putE_small (T := T) (t := t) HSK.out HSQ.out
    rw [hG] at kget
    rw [hP] at kput hpl hps
    obtain ⟨G1, G2⟩ := G
    obtain ⟨P1, P2, P3⟩ := P
    simp only at kget kput hpl hps
    obtain ⟨np, hnp⟩ : ∃ r, P1.length = r := ⟨_, rfl⟩
    obtain ⟨npt, hnpt⟩ : ∃ r, P2.length = r := ⟨_, rfl⟩
    rw [hnp, hnpt] at hpl
    obtain ⟨hpl1, hpl2⟩ := hpl
    have KGET := Lib.hid kget; have KPUT := Lib.hid kput; have HP := Lib.hid hP; have HGE := Lib.hid hG; have HPS := Lib.hid hps; have HNP := Lib.hid hnp; have HNPT := Lib.hid hnpt
    clear kget kput hP hG hps hnp hnpt
    go_upto_region 3 with (go_at_call 10; refine (KGET.out _ SK.out ST.out).mono ?_; rintro e w3 ⟨rfl, hb3⟩; replace s0 := cell_keep s0 hb3; replace s1 := cell_keep s1 hb3; replace qx0 := cell_keep qx0 hb3; replace qx1 := cell_keep qx1 hb3; replace SK := Lib.hid (SK.out.below hb3); replace ST := Lib.hid (ST.out.belowB hb3); replace BB := Lib.hid (below_step BB.out hb3); clear hb3)
    go_upto_region 4 with (go_at_call 11; refine (KPUT.out _ SK.out ST.out).mono ?_; rintro e w4 ⟨u4, rfl, hso, hb4⟩; obtain ⟨pa, pc, pb, pd, rfl, hn4, ht4⟩ := hso.forms; rw [HNP.out] at hn4 ⊢; rw [HNPT.out] at ht4 ⊢; replace s0 := cell_keep s0 hb4; replace s1 := cell_keep s1 hb4; replace qx0 := cell_keep qx0 hb4; replace qx1 := cell_keep qx1 hb4; replace SK := Lib.hid (SK.out.below hb4); replace ST := Lib.hid (ST.out.belowB hb4); replace BB := Lib.hid (below_step BB.out hb4); have SP := Lib.hid hn4; have SQ := Lib.hid ht4; clear hb4 hso hn4 ht4)
    obtain ⟨W5, gp, hW5, hg5, -, p0, p1, hb5⟩ := boxS w4 (.slice pa np pc) (.slice pb npt pd) 25
    rw [hW5, hg5]
    replace SP := Lib.hid (SP.out.below hb5); replace SQ := Lib.hid (SQ.out.belowB hb5)
    replace s0 := cell_keep s0 hb5; replace s1 := cell_keep s1 hb5; replace qx0 := cell_keep qx0 hb5; replace qx1 := cell_keep qx1 hb5; replace SK := Lib.hid (SK.out.below hb5); replace ST := Lib.hid (ST.out.belowB hb5); replace BB := Lib.hid (below_step BB.out hb5)
    clear hW5 hg5 hb5 KGET KPUT
    cases hx : (okS K T && okN (q1, q2))
    · have h1 := HGE.out
      rw [getE_no hx] at h1
      have h2 := HP.out
      rw [putE_no hx] at h2
      obtain ⟨rfl, rfl⟩ := Prod.mk.inj h1
      obtain ⟨rfl, h3⟩ := Prod.mk.inj h2
      obtain ⟨rfl, rfl⟩ := Prod.mk.inj h3
      clear h1 h2 h3 hx
      go_wp2_with (go_at_call 18; refine (sawake_any _).mono ?_; rintro e w9 ⟨rfl, hb9⟩; replace BB := Lib.hid (below_step BB.out hb9); clear hb9)
      go_ret
      exact ⟨rfl, BB.out⟩
    · rw [Bool.and_eq_true] at hx
      obtain ⟨hx, hy⟩ := hx
      obtain ⟨z1, z2, z3⟩ := okS_zip hx
      have hhas : hasP (K.zip T) (q1, q2) = hasN K (q1, q2) := by unfold hasP; rw [z1]
      have h1 := HGE.out
      have h2 := HP.out
      have e4 := getE_yes (S := K.zip T) z3 hy
      have e5 := putE_yes (S := K.zip T) (t := t) z3 hy
      rw [z1, z2, hhas] at e4
      rw [z1, z2] at e5
      rw [e4] at h1
      rw [e5] at h2
      obtain ⟨hp1, h3⟩ := Prod.mk.inj h2
      obtain ⟨hp2, rfl⟩ := Prod.mk.inj h3
      have hop := put_ok (t := t) z3 hy
      have hnp2 : npt = np := by rw [← HNPT.out, ← HNP.out, ← hp1, ← hp2, List.length_map, List.length_map]
      have hnp3 : (putP (K.zip T) (q1, q2) t).length = np := by rw [← HNP.out, ← hp1, List.length_map]
      have hlen := put_len (t := t) z3 hy
      have hzl : (K.zip T).length = nK := by
        have := congrArg List.length z1
        rw [List.length_map, HNK.out] at this; exact this
      have hga : ∀ k, k < np → getE P1 P2 (P1.getD k ([], [])) = (P2.getD k [], 0) := fun k hk => by
        have := get_at hop (i := k) (by omega)
        rw [hp1, hp2] at this; exact this
      have HGA := Lib.hid hga
      subst hnp2
      cases hf : hasN K (q1, q2)
      · rw [hf, if_neg (by simp)] at h1
        obtain ⟨rfl, rfl⟩ := Prod.mk.inj h1
        have hdn := drop_none (S := K.zip T) (n := (q1, q2)) (by rw [hhas]; exact hf)
        have hnn : (nK : Int) + 1 = (npt : Int) := by rw [hdn] at hlen; omega
        clear h1 h2 h3 e4 e5 hp1 hp2 hop hnp3 hlen hzl hga hf hx hy z1 z2 z3 hhas hdn HGE HP
        have hl1 : npt ≤ 25 := by omega
        go_upto_region 11 with fail
        go_wp2
        obtain ⟨wL, hwL⟩ : ∃ r, W5 = r := ⟨_, rfl⟩
        rw [hwL]
        go_loopw [12] (fun i wr => ∃ k : Nat, k ≤ npt ∧ i = .int .i64 (k : Int) ∧ Hid (Below W5.heap.size W5 wr)) (fun i _ => npt - (intOf i).toNat)
        case atStart => exact ⟨0, Nat.zero_le _, rfl, Lib.hid (by rw [← hwL]; exact Below.refl _ _)⟩
        case round =>
          obtain ⟨k, hk, rfl, HB⟩ := hrel
          replace p0 := cell_keep p0 HB.out; replace p1 := cell_keep p1 HB.out
          by_cases hlt : k < npt
          · have hkP : k < P1.length := by rw [HNP.out]; exact hlt
            have hkQ : k < P2.length := by rw [HNPT.out]; exact hlt
            have hge := HGA.out k hlt
            have hsm := HPS.out _ (nd_mem hkP)
            replace SP := Lib.hid (SP.out.below HB.out); replace SQ := Lib.hid (SQ.out.belowB HB.out)
            obtain ⟨bk, qk, rfl, -, y0, yy1⟩ := SP.out.at k hkP
            obtain ⟨bt, qt, rfl, -, yt0⟩ := strs_at SQ.out k hkQ
            obtain ⟨yn, hyn⟩ : ∃ r, P1.getD k ([], []) = r := ⟨_, rfl⟩
            obtain ⟨yt, hyt⟩ : ∃ r, P2.getD k [] = r := ⟨_, rfl⟩
            rw [hyn] at y0 yy1 hge hsm
            rw [hyt] at yt0 hge
            obtain ⟨y1, y2⟩ := yn
            simp only at y0 yy1
            have kg := fun w h h' => sget_any (some ⟨bk, qk, none⟩) (some ⟨bt, qt, none⟩) npt pc npt pd P1 P2 y1 y2 w h h' HPS.out hsm (by omega)
            rw [hge] at kg
            simp only at kg
            have HKG := Lib.hid kg; have HLT0 := Lib.hid hlt
            have e3 : ∀ args w, (callFunc 10 args).run Try.prog w = .ok (.enter 10 args) w := enters_of Try.func10 (by kernel_rfl) rfl
            have hkb : (k : Int) < (npt : Int) := by omega
            have hq : (!(mkB yt).toList == (mkB yt).toList) = false := by simp
            clear kg hge hsm hyn hyt hkP hkQ
            go_upto_region 14 with fail
            refine rol_run (by kernel_rfl) [[], [], [1], [], [1, 2, 3], [1, 2, 3, 4], [0, 1, 2, 3, 4, 5], [0, 1, 2, 3, 4, 5, 6], [0, 1, 2, 3, 4, 5, 6, 7], [0, 1, 2, 3, 4, 5, 6, 7], [0, 1, 2, 3, 4, 5, 6, 7, 8], [0, 1, 2, 3, 4, 5, 6, 7, 8, 9, 10]] (by kernel_rfl) [66, 67, 68, 69, 70, 71, 72, 65, 73, 74, 13, 14] [[], [], [1], [], [2, 3], [4], [0, 5], [6], [7], [7], [8], [9]] [0, 0, 0, 0, 0, 0, 0, 0, 0, 0, 0, 0] [0, 0, 0, 0, 0, 0, 0, 0, 0, 0, 0, 0] [1000, 1000, 1000, 1000, 1000, 1000, 1000, 1000, 1000, 1000, 1000, 1000] [.val 66 (.agg #[.slice (some ⟨bk, qk, none⟩) npt pc, .slice (some ⟨bt, qt, none⟩) npt pd]), .val 67 (.pointer (some ⟨gp, 0, none⟩)), .val 68 (.slice (some ⟨bk, qk, none⟩) npt pc), .val 69 (.int .i64 (k : Int)), .val 70 (.pointer (some ⟨bk, qk + k * 2, none⟩)), .val 71 (.agg #[.string (mkB y1), .string (mkB y2)]), .val 72 (.tuple #[.string (mkB yt), .int .i64 0]), .val 65 (.tuple #[.string (mkB yt), .int .i64 0]), .val 73 (.string (mkB yt)), .val 74 (.int .i64 0), .val 13 (.string (mkB yt)), .val 14 (.int .i64 0)] (by kernel_rfl) ?_ (wr.heap.size) (wr.heap.size) rfl (Below.refl _ _) rfl (fun _ => 0) ?_ ?_ ?_
            · intro j hj
              have hj3 : j < 12 := hj
              have hj2 : j = 0 ∨ j = 1 ∨ j = 2 ∨ j = 3 ∨ j = 4 ∨ j = 5 ∨ j = 6 ∨ j = 7 ∨ j = 8 ∨ j = 9 ∨ j = 10 ∨ j = 11 := by omega
              clear hj hj3
              rcases hj2 with rfl | rfl | rfl | rfl | rfl | rfl | rfl | rfl | rfl | rfl | rfl | rfl
              · exact trivial
              · exact trivial
              · exact trivial
              · exact trivial
              · exact trivial
              · exact trivial
              · exact trivial
              · exact trivial
              · exact trivial
              · exact trivial
              · exact trivial
              · exact trivial
            · intro j hj0 hj
              exact absurd hj (Nat.not_lt.2 hj0)
            · intro i hi a wx who hG hF
              have hz : a.tmps.size = 87 := hG.size
              have hi3 : i < 12 := hi
              have hi2 : i = 0 ∨ i = 1 ∨ i = 2 ∨ i = 3 ∨ i = 4 ∨ i = 5 ∨ i = 6 ∨ i = 7 ∨ i = 8 ∨ i = 9 ∨ i = 10 ∨ i = 11 := by omega
              clear hi hi3
              rcases hi2 with rfl | rfl | rfl | rfl | rfl | rfl | rfl | rfl | rfl | rfl | rfl | rfl
              · exact rol_val rfl rfl rfl (by rw [hz]; decide) (ex_load rfl (eval_slot ((hG.slots 9 (by decide)).trans rfl)) (ld_sto (cell_keep p0 hG.below) (cell_keep p1 hG.below))) hG.below
              · exact rol_val rfl rfl rfl (by rw [hz]; decide) (ex_field rfl (eval_slot ((hG.slots 9 (by decide)).trans rfl)) (by go_simp)) hG.below
              · exact rol_val rfl rfl rfl (by rw [hz]; decide) (ex_load rfl (eval_slot (hF 1 (by decide))) (ld_nds (cell_keep p0 hG.below))) hG.below
              · exact rol_val rfl rfl rfl (by rw [hz]; decide) (ex_move (Or.inl rfl) (eval_slot ((hG.slots 12 (by decide)).trans rfl))) hG.below
              · exact rol_val rfl rfl rfl (by rw [hz]; decide) (ex_index rfl (eval_slot (hF 2 (by decide))) (eval_slot (hF 3 (by decide))) (idx_nds HLT0.out)) hG.below
              · exact rol_val rfl rfl rfl (by rw [hz]; decide) (ex_load rfl (eval_slot (hF 4 (by decide))) (ld_node (cell_keep y0 hG.below) (cell_keep yy1 hG.below))) hG.below
              · refine rol_call rfl rfl rfl (by rw [hz]; decide) (ex_call rfl (by simp [eval_slot (hF 0 (by decide)), eval_slot (hF 5 (by decide))]) e3) (HKG.out wx (SP.out.below hG.below) (SQ.out.belowB hG.below)) ?_ hG.below hG.new
                rintro e w1 ⟨rfl, hb1⟩
                exact ⟨_, rfl, hb1, .inl rfl⟩
              · exact rol_val rfl rfl rfl (by rw [hz]; decide) (ex_move (Or.inl rfl) (eval_slot (hF 6 (by decide)))) hG.below
              · exact rol_val rfl rfl rfl (by rw [hz]; decide) (ex_extract rfl (eval_slot (hF 7 (by decide))) rfl) hG.below
              · exact rol_val rfl rfl rfl (by rw [hz]; decide) (ex_extract rfl (eval_slot (hF 7 (by decide))) rfl) hG.below
              · exact rol_val rfl rfl rfl (by rw [hz]; decide) (ex_move (Or.inr rfl) (eval_slot (hF 8 (by decide)))) hG.below
              · exact rol_val rfl rfl rfl (by rw [hz]; decide) (ex_move (Or.inr rfl) (eval_slot (hF 9 (by decide)))) hG.below
            · intro a wx who hG hF
              have fv13 : a.tmps.getD 13 undef = .string (mkB yt) := eval_slot (s := 13) (hF 10 (of_decide_eq_true (by kernel_rfl)) (of_decide_eq_true (by kernel_rfl)))
              have fv14 : a.tmps.getD 14 undef = .int .i64 0 := eval_slot (s := 14) (hF 11 (of_decide_eq_true (by kernel_rfl)) (of_decide_eq_true (by kernel_rfl)))
              have hbx := hG.below
              have hnx := hG.new
              rw [hG.frame]
              simp only [List.foldl_cons, List.foldl_nil, List.setIfInBounds_toArray, List.set_cons_zero, List.set_cons_succ]
              generalize a.tmps.getD 66 undef = u66
              generalize a.tmps.getD 67 undef = u67
              generalize a.tmps.getD 68 undef = u68
              generalize a.tmps.getD 69 undef = u69
              generalize a.tmps.getD 70 undef = u70
              generalize a.tmps.getD 71 undef = u71
              generalize a.tmps.getD 72 undef = u72
              generalize a.tmps.getD 65 undef = u65
              generalize a.tmps.getD 73 undef = u73
              generalize a.tmps.getD 74 undef = u74
              rw [fv13]
              rw [fv14]
              clear hF hG fv13 fv14
              replace p1 := cell_keep p1 hbx; replace yt0 := cell_keep yt0 hbx
              have HB2 := Lib.hid (below_step HB.out hbx)
              clear hbx hnx p0 y0 yy1
              go_wp2
              go_roundw
              case rel => exact ⟨k + 1, by omega, by go_num, HB2⟩
              case measure => simp [intOf]; omega
          · replace BB := Lib.hid (below_step BB.out HB.out)
            go_wp2_with (go_at_call 18; refine (sawake_any _).mono ?_; rintro e w9 ⟨rfl, hb9⟩; replace BB := Lib.hid (below_step BB.out hb9); clear hb9)
            go_ret
            exact ⟨rfl, BB.out⟩
      · rw [hf, if_pos rfl] at h1
        obtain ⟨hg1, rfl⟩ := Prod.mk.inj h1
        have hdl := drop_len (n := (q1, q2)) z3 (by rw [hhas]; exact hf)
        have hnn : nK = npt := by omega
        subst hnn
        clear h1 h2 h3 e4 e5 hp1 hp2 hop hnp3 hlen hzl hga hf hx hy z1 z2 z3 hhas hdl hg1 HGE HP
        have hl1 : nK ≤ 25 := by omega
        go_upto_region 11 with fail
        go_wp2
        obtain ⟨wL, hwL⟩ : ∃ r, W5 = r := ⟨_, rfl⟩
        rw [hwL]
        go_loopw [12] (fun i wr => ∃ k : Nat, k ≤ nK ∧ i = .int .i64 (k : Int) ∧ Hid (Below W5.heap.size W5 wr)) (fun i _ => nK - (intOf i).toNat)
        case atStart => exact ⟨0, Nat.zero_le _, rfl, Lib.hid (by rw [← hwL]; exact Below.refl _ _)⟩
        case round =>
          obtain ⟨k, hk, rfl, HB⟩ := hrel
          replace p0 := cell_keep p0 HB.out; replace p1 := cell_keep p1 HB.out
          by_cases hlt : k < nK
          · have hkP : k < P1.length := by rw [HNP.out]; exact hlt
            have hkQ : k < P2.length := by rw [HNPT.out]; exact hlt
            have hge := HGA.out k hlt
            have hsm := HPS.out _ (nd_mem hkP)
            replace SP := Lib.hid (SP.out.below HB.out); replace SQ := Lib.hid (SQ.out.belowB HB.out)
            obtain ⟨bk, qk, rfl, -, y0, yy1⟩ := SP.out.at k hkP
            obtain ⟨bt, qt, rfl, -, yt0⟩ := strs_at SQ.out k hkQ
            obtain ⟨yn, hyn⟩ : ∃ r, P1.getD k ([], []) = r := ⟨_, rfl⟩
            obtain ⟨yt, hyt⟩ : ∃ r, P2.getD k [] = r := ⟨_, rfl⟩
            rw [hyn] at y0 yy1 hge hsm
            rw [hyt] at yt0 hge
            obtain ⟨y1, y2⟩ := yn
            simp only at y0 yy1
            have kg := fun w h h' => sget_any (some ⟨bk, qk, none⟩) (some ⟨bt, qt, none⟩) nK pc nK pd P1 P2 y1 y2 w h h' HPS.out hsm (by omega)
            rw [hge] at kg
            simp only at kg
            have HKG := Lib.hid kg; have HLT0 := Lib.hid hlt
            have e3 : ∀ args w, (callFunc 10 args).run Try.prog w = .ok (.enter 10 args) w := enters_of Try.func10 (by kernel_rfl) rfl
            have hkb : (k : Int) < (nK : Int) := by omega
            have hq : (!(mkB yt).toList == (mkB yt).toList) = false := by simp
            clear kg hge hsm hyn hyt hkP hkQ
            go_upto_region 14 with fail
            refine rol_run (by kernel_rfl) [[], [], [1], [], [1, 2, 3], [1, 2, 3, 4], [0, 1, 2, 3, 4, 5], [0, 1, 2, 3, 4, 5, 6], [0, 1, 2, 3, 4, 5, 6, 7], [0, 1, 2, 3, 4, 5, 6, 7], [0, 1, 2, 3, 4, 5, 6, 7, 8], [0, 1, 2, 3, 4, 5, 6, 7, 8, 9, 10]] (by kernel_rfl) [66, 67, 68, 69, 70, 71, 72, 65, 73, 74, 13, 14] [[], [], [1], [], [2, 3], [4], [0, 5], [6], [7], [7], [8], [9]] [0, 0, 0, 0, 0, 0, 0, 0, 0, 0, 0, 0] [0, 0, 0, 0, 0, 0, 0, 0, 0, 0, 0, 0] [1000, 1000, 1000, 1000, 1000, 1000, 1000, 1000, 1000, 1000, 1000, 1000] [.val 66 (.agg #[.slice (some ⟨bk, qk, none⟩) nK pc, .slice (some ⟨bt, qt, none⟩) nK pd]), .val 67 (.pointer (some ⟨gp, 0, none⟩)), .val 68 (.slice (some ⟨bk, qk, none⟩) nK pc), .val 69 (.int .i64 (k : Int)), .val 70 (.pointer (some ⟨bk, qk + k * 2, none⟩)), .val 71 (.agg #[.string (mkB y1), .string (mkB y2)]), .val 72 (.tuple #[.string (mkB yt), .int .i64 0]), .val 65 (.tuple #[.string (mkB yt), .int .i64 0]), .val 73 (.string (mkB yt)), .val 74 (.int .i64 0), .val 13 (.string (mkB yt)), .val 14 (.int .i64 0)] (by kernel_rfl) ?_ (wr.heap.size) (wr.heap.size) rfl (Below.refl _ _) rfl (fun _ => 0) ?_ ?_ ?_
            · intro j hj
              have hj3 : j < 12 := hj
              have hj2 : j = 0 ∨ j = 1 ∨ j = 2 ∨ j = 3 ∨ j = 4 ∨ j = 5 ∨ j = 6 ∨ j = 7 ∨ j = 8 ∨ j = 9 ∨ j = 10 ∨ j = 11 := by omega
              clear hj hj3
              rcases hj2 with rfl | rfl | rfl | rfl | rfl | rfl | rfl | rfl | rfl | rfl | rfl | rfl
              · exact trivial
              · exact trivial
              · exact trivial
              · exact trivial
              · exact trivial
              · exact trivial
              · exact trivial
              · exact trivial
              · exact trivial
              · exact trivial
              · exact trivial
              · exact trivial
            · intro j hj0 hj
              exact absurd hj (Nat.not_lt.2 hj0)
            · intro i hi a wx who hG hF
              have hz : a.tmps.size = 87 := hG.size
              have hi3 : i < 12 := hi
              have hi2 : i = 0 ∨ i = 1 ∨ i = 2 ∨ i = 3 ∨ i = 4 ∨ i = 5 ∨ i = 6 ∨ i = 7 ∨ i = 8 ∨ i = 9 ∨ i = 10 ∨ i = 11 := by omega
              clear hi hi3
              rcases hi2 with rfl | rfl | rfl | rfl | rfl | rfl | rfl | rfl | rfl | rfl | rfl | rfl
              · exact rol_val rfl rfl rfl (by rw [hz]; decide) (ex_load rfl (eval_slot ((hG.slots 9 (by decide)).trans rfl)) (ld_sto (cell_keep p0 hG.below) (cell_keep p1 hG.below))) hG.below
              · exact rol_val rfl rfl rfl (by rw [hz]; decide) (ex_field rfl (eval_slot ((hG.slots 9 (by decide)).trans rfl)) (by go_simp)) hG.below
              · exact rol_val rfl rfl rfl (by rw [hz]; decide) (ex_load rfl (eval_slot (hF 1 (by decide))) (ld_nds (cell_keep p0 hG.below))) hG.below
              · exact rol_val rfl rfl rfl (by rw [hz]; decide) (ex_move (Or.inl rfl) (eval_slot ((hG.slots 12 (by decide)).trans rfl))) hG.below
              · exact rol_val rfl rfl rfl (by rw [hz]; decide) (ex_index rfl (eval_slot (hF 2 (by decide))) (eval_slot (hF 3 (by decide))) (idx_nds HLT0.out)) hG.below
              · exact rol_val rfl rfl rfl (by rw [hz]; decide) (ex_load rfl (eval_slot (hF 4 (by decide))) (ld_node (cell_keep y0 hG.below) (cell_keep yy1 hG.below))) hG.below
              · refine rol_call rfl rfl rfl (by rw [hz]; decide) (ex_call rfl (by simp [eval_slot (hF 0 (by decide)), eval_slot (hF 5 (by decide))]) e3) (HKG.out wx (SP.out.below hG.below) (SQ.out.belowB hG.below)) ?_ hG.below hG.new
                rintro e w1 ⟨rfl, hb1⟩
                exact ⟨_, rfl, hb1, .inl rfl⟩
              · exact rol_val rfl rfl rfl (by rw [hz]; decide) (ex_move (Or.inl rfl) (eval_slot (hF 6 (by decide)))) hG.below
              · exact rol_val rfl rfl rfl (by rw [hz]; decide) (ex_extract rfl (eval_slot (hF 7 (by decide))) rfl) hG.below
              · exact rol_val rfl rfl rfl (by rw [hz]; decide) (ex_extract rfl (eval_slot (hF 7 (by decide))) rfl) hG.below
              · exact rol_val rfl rfl rfl (by rw [hz]; decide) (ex_move (Or.inr rfl) (eval_slot (hF 8 (by decide)))) hG.below
              · exact rol_val rfl rfl rfl (by rw [hz]; decide) (ex_move (Or.inr rfl) (eval_slot (hF 9 (by decide)))) hG.below
            · intro a wx who hG hF
              have fv13 : a.tmps.getD 13 undef = .string (mkB yt) := eval_slot (s := 13) (hF 10 (of_decide_eq_true (by kernel_rfl)) (of_decide_eq_true (by kernel_rfl)))
              have fv14 : a.tmps.getD 14 undef = .int .i64 0 := eval_slot (s := 14) (hF 11 (of_decide_eq_true (by kernel_rfl)) (of_decide_eq_true (by kernel_rfl)))
              have hbx := hG.below
              have hnx := hG.new
              rw [hG.frame]
              simp only [List.foldl_cons, List.foldl_nil, List.setIfInBounds_toArray, List.set_cons_zero, List.set_cons_succ]
              generalize a.tmps.getD 66 undef = u66
              generalize a.tmps.getD 67 undef = u67
              generalize a.tmps.getD 68 undef = u68
              generalize a.tmps.getD 69 undef = u69
              generalize a.tmps.getD 70 undef = u70
              generalize a.tmps.getD 71 undef = u71
              generalize a.tmps.getD 72 undef = u72
              generalize a.tmps.getD 65 undef = u65
              generalize a.tmps.getD 73 undef = u73
              generalize a.tmps.getD 74 undef = u74
              rw [fv13]
              rw [fv14]
              clear hF hG fv13 fv14
              replace p1 := cell_keep p1 hbx; replace yt0 := cell_keep yt0 hbx
              have HB2 := Lib.hid (below_step HB.out hbx)
              clear hbx hnx p0 y0 yy1
              go_wp2
              go_roundw
              case rel => exact ⟨k + 1, by omega, by go_num, HB2⟩
              case measure => simp [intOf]; omega
          · replace BB := Lib.hid (below_step BB.out HB.out)
            go_wp2_with (go_at_call 18; refine (sawake_any _).mono ?_; rintro e w9 ⟨rfl, hb9⟩; replace BB := Lib.hid (below_step BB.out hb9); clear hb9)
            go_ret
            exact ⟨rfl, BB.out⟩

theorem own : ownKnob Try.prog.godebug = none := by kernel_rfl
theorem laidOut : laidOutB Try.prog = true := by kernel_rfl

set_option maxRecDepth 100000 in
theorem lifted (os : Os) (started : os.Started) (H : Type) (enc : TypeId × Value → H) :
    ReturnsInHanded {} Try.checked os 6 .any (Rows.storeManySpec.pre6 enc Try.prog Try.f6 Rows.storeManyRow.domain false) (Rows.storeManySpec.post enc Try.prog Try.f6 false true false false) := by
  refine returnsInHanded_of_change (C := Try.checked) own started (by kernel_rfl) Try.func6
    (ChangeSpec.witness6 (enc := enc) (C := Try.checked) false ⟨#[], #[.agg #[.slice none 0 0, .slice none 0 0], .agg #[.string ByteArray.empty, .string ByteArray.empty], .string ByteArray.empty], []⟩ 8 (by kernel_rfl) (by kernel_rfl) (by kernel_rfl) (by kernel_rfl)) ?_
  intro W base args ds gs before hval0 hW hcnd _
  have hval : ∀ (j : Nat) t v, Try.f6.params[j]? = some t → args[j]? = some v → Value.okWide Try.prog W .any base t v := hval0
  have hW' := hW
  obtain ⟨p, q, hA0, hV, rfl, hfz, hnd⟩ := hW
  have hA : DataW.TrodAll enc Try.prog W 0 (fun _ => true) true Try.f6.params.toList args.toList ds p := hA0
  rw [Try.params6] at hA hval
  obtain ⟨v0, vs0, d0, ds0, p0, q0, hargs, rfl, rfl, h0, r0⟩ := trodAll_cons hA
  obtain ⟨v1, vs1, d1, ds1, p1, q1, rfl, rfl, rfl, h1, r1⟩ := trodAll_cons r0
  obtain ⟨v2, vs2, d2, ds2, p2, q2, rfl, rfl, rfl, h2, r2⟩ := trodAll_cons r1
  obtain ⟨rfl, rfl, rfl⟩ := trodAll_nil r2
  obtain rfl : args = #[v0, v1, v2] := by cases args; simp_all
  obtain ⟨rfl, rfl⟩ := trodVars_none hV
  have k0 := h0
  have lt0 : ∀ x ∈ p0, x.block < W.heap.size := by obtain ⟨m, hm⟩ := k0; exact DataW.trod_lt m _ _ _ hm
  obtain ⟨z0, w0⟩ := sto_open (hval 0 25 v0 rfl rfl) h0
  have k1 := h1
  have lt1 : ∀ x ∈ p1, x.block < W.heap.size := by obtain ⟨m, hm⟩ := k1; exact DataW.trod_lt m _ _ _ hm
  obtain ⟨z1, w1⟩ := node_open (hval 1 27 v1 rfl rfl) h1
  obtain ⟨a2, rfl, rfl, rfl, w2⟩ := open_string Try.underlying9 (hval 2 9 v2 rfl rfl) h2
  clear hA0 hval0
  refine (walk _ z0 _ z1 a2 W w0 w1 w2).mono fun e W' ⟨he, bel⟩ => ?_
  subst he
  exact ⟨_, rfl, _, _, _, [], _, [], hW', trodAll_mk1 (shut_bool Try.underlying4 _), (trodAll_cons_mk (Below.trod laidOut (by kernel_rfl) (of_decide_eq_true (by kernel_rfl)) k0 bel lt0) (trodAll_cons_mk (Below.trod laidOut (by kernel_rfl) (of_decide_eq_true (by kernel_rfl)) k1 bel lt1) (trodAll_cons_mk (shut_string Try.underlying9 w2) trodAll_mk0))), rfl, bel.frame _, fun h => by cases h⟩

-- the given statement
theorem proved : Rows.StoreManySaid :=
  OpenClaim.holds_of_wide 6 Try.f6 rfl rfl rfl rfl rfl rfl rfl ⟨rfl, rfl, rfl, rfl, rfl⟩ rfl rfl rfl rfl rfl (by kernel_rfl) Try.func6 (by kernel_rfl)
    (of_decide_eq_true (by kernel_rfl)) (by unfold Func.isWrapper; first | (rw [if_pos (by decide +kernel)]; kernel_rfl) | (rw [if_neg (by decide +kernel)]; exact ⟨rfl, rfl⟩))
    (fun os started H enc _ => lifted os started H enc)
end Go.Proofs.Ytceefoiffkgliaa.storeMany
