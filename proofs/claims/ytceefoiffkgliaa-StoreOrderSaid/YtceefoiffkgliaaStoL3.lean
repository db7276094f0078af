/- Of every store and every two nodes (no more, and no longer, than are looked at): it is the same, in whatever order two nodes are put, and dropped; put twice what was put last counts; no condition. -/
import Derived.Test.YtceefoiffkgliaaRows
import Derived.Test.YtceefoiffkgliaaStoS
import Derived.ProofKit
import Derived.OpenShut
import Derived.ShutString
import Derived.ChangeOld
namespace Go.Proofs.Ytceefoiffkgliaa.storeOrder
open Go.ChangeShapes Go.WideShapes Go.ChangeAt Go.RowKit
open Go.ChangeMaps (open_string shut_string)
set_option maxRecDepth 100000
set_option linter.unusedVariables false

set_option maxRecDepth 100000 in
set_option maxHeartbeats 6400000 in
theorem walk (M : Value) (x : List Nd × List (List UInt8)) (V : Value) (q : Nd) (U : Value) (o : Nd) (w : World) (hM : StoIn w M x.1 x.2) (hV : V = .agg #[.string (mkB q.1), .string (mkB q.2)] ∧ fitsN q) (hU : U = .agg #[.string (mkB o.1), .string (mkB o.2)] ∧ fitsN o) :
    Calls Try.prog 5 #[M, V, U] w fun e w' => e = .returned (.bool true) ∧ Below w.heap.size w w' := by
  obtain ⟨⟨A, n, c, B, m, d, rfl, hk, ht⟩, fK, fT⟩ := hM
  obtain ⟨K0, T0⟩ := x
  simp only at hk ht fK fT
  obtain ⟨rfl, fq⟩ := hV
  obtain ⟨rfl, fo⟩ := hU
  obtain ⟨pq, vq⟩ := q
  obtain ⟨po, vo⟩ := o
  simp only at fq fo ⊢
  have hsq := oneN_smallQ (pq, vq)
  have hso := oneN_smallQ (po, vo)
  have hoq := fun w => one_any pq vq w fq.1 fq.2
  have hoo := fun w => one_any po vo w fo.1 fo.2
  obtain ⟨q1, hq1⟩ : ∃ r, fewL pq = r := ⟨_, rfl⟩
  obtain ⟨q2, hq2⟩ : ∃ r, fewL vq = r := ⟨_, rfl⟩
  obtain ⟨o1, ho1⟩ : ∃ r, fewL po = r := ⟨_, rfl⟩
  obtain ⟨o2, ho2⟩ : ∃ r, fewL vo = r := ⟨_, rfl⟩
  simp only at hsq hso
  rw [hq1, hq2] at hsq hoq
  rw [ho1, ho2] at hso hoo
  have hkl := fewNs_len K0; have htl := fewTs_len T0; have hks := fewNs_small K0
  have hfw := fun w h h' => sfew_any A B n c m d K0 T0 w h h' fK fT
  obtain ⟨K, hK⟩ : ∃ r, fewNs K0 = r := ⟨_, rfl⟩
  obtain ⟨T, hT⟩ : ∃ r, fewTs T0 = r := ⟨_, rfl⟩
  rw [hK] at hkl hks hfw
  rw [hT] at htl hfw
  obtain ⟨nK, hnK⟩ : ∃ r, K.length = r := ⟨_, rfl⟩
  obtain ⟨nT, hnT⟩ : ∃ r, T.length = r := ⟨_, rfl⟩
  rw [hnK] at hkl
  rw [hnT] at htl
  obtain ⟨W, gs, gq, go, hW, hg, hg', hg'', r0, r1, r2, hb⟩ := boxS3 w (.slice A n c) (.slice B m d) (.string (mkB pq)) (.string (mkB vq)) (.string (mkB po)) (.string (mkB vo)) 25 27 27
  have SK0 := Lib.hid hk; have ST0 := Lib.hid ht; have RS := Lib.hid r0; have RNq := Lib.hid r1; have RNo := Lib.hid r2; have HFW := Lib.hid hfw; have HOq := Lib.hid hoq; have HOo := Lib.hid hoo; have HNK := Lib.hid hnK; have HNT := Lib.hid hnT; have HSQ := Lib.hid hsq; have HSO := Lib.hid hso; have HSK := Lib.hid hks
  have HLgs := Lib.hid (show w.heap.size ≤ gs by omega); have HLq := Lib.hid (show w.heap.size ≤ gq by omega); have HLo := Lib.hid (show w.heap.size ≤ go by omega); have Hqgs := Lib.hid (show ¬ gq = gs by omega); have Hogs := Lib.hid (show ¬ go = gs by omega); have Hoq := Lib.hid (show ¬ go = gq by omega)
  have BB := Lib.hid hb; have HW := Lib.hid hW; have HG := Lib.hid hg; have HG' := Lib.hid hg'; have HG'' := Lib.hid hg''
  clear hk ht r0 r1 r2 hfw hoq hoo hnK hnT hsq hso hks hb hW hg hg' hg'' hK hT hq1 hq2 ho1 ho2 fK fT fq fo
  have e1 : ∀ args w, (callFunc 8 args).run Try.prog w = .ok (.enter 8 args) w := enters_of Try.func8 (by kernel_rfl) rfl
  have e2 : ∀ args w, (callFunc 9 args).run Try.prog w = .ok (.enter 9 args) w := enters_of Try.func9 (by kernel_rfl) rfl
  go_enter Try.func5, Try.ntmps5
  go_upto_region 1 with fail
  rw [HW.out, HG''.out, HG'.out, HG.out]
  refine rol_run (by kernel_rfl) [[], [0], [], [0, 1, 2], [], [0, 1, 2, 3, 4], [0, 1, 2, 3, 4, 5], [0, 1, 2, 3, 4, 5, 6], [0, 1, 2, 3, 4, 5, 6, 7]] (by kernel_rfl) [23, 24, 25, 26, 27, 28] [[9], [0], [10], [2], [11], [4], [1, 9], [3, 10], [5, 11]] [0, 1, 0, 0, 0, 0, 3, 4, 5, 3, 4, 5] [0, 0, 0, 0, 0, 0, 3, 4, 5] [1000, 1000, 1000, 1000, 1000, 1000, 1000, 1000, 1000, 6, 7, 8] [.val 23 (.agg #[.slice A n c, .slice B m d]), .mems 24 (stoG W.heap.size K T), .val 25 (.agg #[.string (mkB pq), .string (mkB vq)]), .val 26 (.agg #[.string (mkB q1), .string (mkB q2)]), .val 27 (.agg #[.string (mkB po), .string (mkB vo)]), .val 28 (.agg #[.string (mkB o1), .string (mkB o2)]), .mem 24 (boxG gs 25), .box (gq) (.cells #[.string (mkB q1), .string (mkB q2)] 27), .box (go) (.cells #[.string (mkB o1), .string (mkB o2)] 27), .box (gs) (.cells #[.slice A n c, .slice B m d] 25), .box (gq) (.cells #[.string (mkB pq), .string (mkB vq)] 27), .box (go) (.cells #[.string (mkB po), .string (mkB vo)] 27)] (by kernel_rfl) ?_ (w.heap.size) (W.heap.size) rfl BB.out rfl (fun k => if k = gs then 3 else if k = gq then 4 else if k = go then 5 else 0) ?_ ?_ ?_
  · intro j hj
    have hj3 : j < 12 := hj
    have hj2 : j = 0 ∨ j = 1 ∨ j = 2 ∨ j = 3 ∨ j = 4 ∨ j = 5 ∨ j = 6 ∨ j = 7 ∨ j = 8 ∨ j = 9 ∨ j = 10 ∨ j = 11 := by omega
    clear hj hj3
    rcases hj2 with rfl | rfl | rfl | rfl | rfl | rfl | rfl | rfl | rfl | rfl | rfl | rfl
    · exact trivial
    · exact stoG_near
    · exact trivial
    · exact trivial
    · exact trivial
    · exact trivial
    · exact boxG_near
    · exact trivial
    · exact trivial
    · exact trivial
    · exact trivial
    · exact trivial
  · intro j hj0 hj
    have hj1 : 9 ≤ j := hj0
    have hj3 : j < 12 := hj
    have hj2 : j = 9 ∨ j = 10 ∨ j = 11 := by omega
    clear hj0 hj hj1 hj3
    rcases hj2 with rfl | rfl | rfl
    · exact ⟨RS.out, if_pos rfl⟩
    · exact ⟨RNq.out, (if_neg Hqgs.out).trans (if_pos rfl)⟩
    · exact ⟨RNo.out, (if_neg Hogs.out).trans ((if_neg Hoq.out).trans (if_pos rfl))⟩
  · intro i hi a wx who hG hF
    have hz : a.tmps.size = 142 := hG.size
    have hi3 : i < 9 := hi
    have hi2 : i = 0 ∨ i = 1 ∨ i = 2 ∨ i = 3 ∨ i = 4 ∨ i = 5 ∨ i = 6 ∨ i = 7 ∨ i = 8 := by omega
    clear hi hi3
    rcases hi2 with rfl | rfl | rfl | rfl | rfl | rfl | rfl | rfl | rfl
    · exact rol_val rfl rfl rfl (by rw [hz]; decide) (ex_load rfl (eval_slot ((hG.slots 3 (by decide)).trans rfl)) (ld_sto (row2 (hF 9 (by decide)).1).1 (row2 (hF 9 (by decide)).1).2.1)) hG.below
    · refine rol_calls rfl rfl rfl (by rw [hz]; decide) (ex_call rfl (by simp [eval_slot (hF 0 (by decide))]) e1) (HFW.out wx (Nds.below SK0.out hG.below) (Strs.belowB ST0.out hG.below)) ?_ hG.below (Nat.le_trans BB.out.size hG.new)
      rintro e w1 ⟨u, rfl, hso, hb1⟩
      obtain ⟨bs, hbs, hg⟩ := hso.toG hG.new
      exact ⟨u, rfl, hb1, .inr (.inr ⟨_, bs, rfl, hbs, hg⟩)⟩
    · exact rol_val rfl rfl rfl (by rw [hz]; decide) (ex_load rfl (eval_slot ((hG.slots 4 (by decide)).trans rfl)) (ld_node (row2 (hF 10 (by decide)).1).1 (row2 (hF 10 (by decide)).1).2.1)) hG.below
    · refine rol_calls rfl rfl rfl (by rw [hz]; decide) (ex_call rfl (by simp [eval_slot (hF 2 (by decide))]) e2) (HOq.out wx) ?_ hG.below (Nat.le_trans BB.out.size hG.new)
      rintro e w1 ⟨rfl, hb1⟩
      exact ⟨_, rfl, hb1, .inl rfl⟩
    · exact rol_val rfl rfl rfl (by rw [hz]; decide) (ex_load rfl (eval_slot ((hG.slots 5 (by decide)).trans rfl)) (ld_node (row2 (hF 11 (by decide)).1).1 (row2 (hF 11 (by decide)).1).2.1)) hG.below
    · refine rol_calls rfl rfl rfl (by rw [hz]; decide) (ex_call rfl (by simp [eval_slot (hF 4 (by decide))]) e2) (HOo.out wx) ?_ hG.below (Nat.le_trans BB.out.size hG.new)
      rintro e w1 ⟨rfl, hb1⟩
      exact ⟨_, rfl, hb1, .inl rfl⟩
    · exact rol_box rfl rfl rfl rfl (eval_slot ((hG.slots 3 (by decide)).trans rfl)) (hF 1 (by decide)) (hF 9 (by decide)) hG.below HLgs.out
    · exact rol_box_node rfl rfl rfl rfl (eval_slot ((hG.slots 4 (by decide)).trans rfl)) (eval_slot (hF 3 (by decide))) (hF 10 (by decide)) hG.below HLq.out
    · exact rol_box_node rfl rfl rfl rfl (eval_slot ((hG.slots 5 (by decide)).trans rfl)) (eval_slot (hF 5 (by decide))) (hF 11 (by decide)) hG.below HLo.out
  · intro a wx who hG hF
    obtain ⟨v24, bs24, fv24, fo24, fp24⟩ := hF 1 (of_decide_eq_true (by kernel_rfl)) (of_decide_eq_true (by kernel_rfl))
    replace fv24 : a.tmps.getD 24 undef = v24 := eval_slot (s := 24) fv24
    have hbox := hF 6 (of_decide_eq_true (by kernel_rfl)) (of_decide_eq_true (by kernel_rfl))
    have hbn0 := hF 7 (of_decide_eq_true (by kernel_rfl)) (of_decide_eq_true (by kernel_rfl))
    have hbn1 := hF 8 (of_decide_eq_true (by kernel_rfl)) (of_decide_eq_true (by kernel_rfl))
    obtain ⟨p11, ob11, hp11, -, -, x11, y11, hv11, hrow11⟩ := hbox
    have e11 : v24 = p11 := fv24.symm.trans (eval_slot hp11)
    subst e11
    clear hp11 ob11
    replace hbn0 := hbn0.1
    replace hbn1 := hbn1.1
    have hbx := hG.below
    have hnx := hG.new
    rw [hG.frame]
    simp only [List.foldl_cons, List.foldl_nil, List.setIfInBounds_toArray, List.set_cons_zero, List.set_cons_succ]
    generalize a.tmps.getD 23 undef = u23
    rw [fv24]
    generalize a.tmps.getD 25 undef = u25
    generalize a.tmps.getD 26 undef = u26
    generalize a.tmps.getD 27 undef = u27
    generalize a.tmps.getD 28 undef = u28
    clear hF hG fv24
    obtain ⟨aK, cK, aT, cT, hv1, hn1, ht1⟩ := fp24.own.forms
    rw [hv11] at hv1
    injection hv1 with hv1
    injection hv1 with hv1
    injection hv1 with hv1 hv2
    injection hv2 with hv2
    subst hv1 hv2 hv11
    obtain ⟨s0, s1, -, -⟩ := row2 hrow11
    rw [HNK.out] at hn1 s0 ⊢
    rw [HNT.out] at ht1 s1 ⊢
    obtain ⟨qx0, qx1, -, -⟩ := row2 hbn0
    obtain ⟨ox0, ox1, -, -⟩ := row2 hbn1
    have SK := Lib.hid hn1; have ST := Lib.hid ht1
    replace BB := Lib.hid hbx
    clear fp24 fo24 hrow11 hn1 ht1 hbx hnx hbn0 hbn1 SK0 ST0 RS RNq RNo HFW HOq HOo e1 e2 HLgs HLq HLo
    have ksa := putE_small (T := T) (t := [49]) HSK.out HSQ.out
    have ksb := putE_small (T := T) (t := [50]) HSK.out HSO.out
    have kla := putE_len (n := (q1, q2)) (t := [49]) (m := 24) (by rw [HNK.out]; exact hkl) (by rw [HNT.out]; exact htl)
    have klb := putE_len (n := (o1, o2)) (t := [50]) (m := 24) (by rw [HNK.out]; exact hkl) (by rw [HNT.out]; exact htl)
    have kpa := fun w h h' => sput_any aK aT nK cK nT cT K T q1 q2 [49] w h h' HSK.out HSQ.out (by omega) (by omega)
    have kpb := fun w h h' => sput_any aK aT nK cK nT cT K T o1 o2 [50] w h h' HSK.out HSO.out (by omega) (by omega)
    obtain ⟨PA, hPA⟩ : ∃ r, putE K T (q1, q2) [49] = r := ⟨_, rfl⟩
    obtain ⟨PB, hPB⟩ : ∃ r, putE K T (o1, o2) [50] = r := ⟨_, rfl⟩
    rw [hPA] at ksa kla kpa
    rw [hPB] at ksb klb kpb
    obtain ⟨A1, A2, A3⟩ := PA
    obtain ⟨B1, B2, B3⟩ := PB
    simp only at ksa kla kpa ksb klb kpb
    obtain ⟨na, hna⟩ : ∃ r, A1.length = r := ⟨_, rfl⟩
    obtain ⟨nat, hnat⟩ : ∃ r, A2.length = r := ⟨_, rfl⟩
    obtain ⟨nb, hnb⟩ : ∃ r, B1.length = r := ⟨_, rfl⟩
    obtain ⟨nbt, hnbt⟩ : ∃ r, B2.length = r := ⟨_, rfl⟩
    rw [hna, hnat] at kla
    rw [hnb, hnbt] at klb
    obtain ⟨la1, la2⟩ := kla
    obtain ⟨lb1, lb2⟩ := klb
    have KPA := Lib.hid kpa; have KPB := Lib.hid kpb; have HPA := Lib.hid hPA; have HPB := Lib.hid hPB; have HNA := Lib.hid hna; have HNAT := Lib.hid hnat; have HNB := Lib.hid hnb; have HNBT := Lib.hid hnbt; have KSA := Lib.hid ksa; have KSB := Lib.hid ksb
    clear kpa kpb hPA hPB hna hnat hnb hnbt ksa ksb
    go_upto_region 3 with (go_at_call 11; refine (KPA.out _ SK.out ST.out).mono ?_; rintro e w6 ⟨u, rfl, hso, hb4⟩; obtain ⟨aa, ac, ab, ad, rfl, hn4, ht4⟩ := hso.forms; rw [HNA.out] at hn4 ⊢; rw [HNAT.out] at ht4 ⊢; replace s0 := cell_keep s0 hb4; replace s1 := cell_keep s1 hb4; replace qx0 := cell_keep qx0 hb4; replace qx1 := cell_keep qx1 hb4; replace ox0 := cell_keep ox0 hb4; replace ox1 := cell_keep ox1 hb4; replace SK := Lib.hid (SK.out.below hb4); replace ST := Lib.hid (ST.out.belowB hb4); replace BB := Lib.hid (below_step BB.out hb4); have SA := Lib.hid hn4; have SA2 := Lib.hid ht4; clear hb4 hso hn4 ht4)
    obtain ⟨W6, ga, hW5, hg5, -, a0, a1, hb5⟩ := boxS w6 (.slice aa na ac) (.slice ab nat ad) 25
    rw [hW5, hg5]
    replace SA := Lib.hid (SA.out.below hb5); replace SA2 := Lib.hid (SA2.out.belowB hb5)
    replace s0 := cell_keep s0 hb5; replace s1 := cell_keep s1 hb5; replace qx0 := cell_keep qx0 hb5; replace qx1 := cell_keep qx1 hb5; replace ox0 := cell_keep ox0 hb5; replace ox1 := cell_keep ox1 hb5; replace SK := Lib.hid (SK.out.below hb5); replace ST := Lib.hid (ST.out.belowB hb5); replace BB := Lib.hid (below_step BB.out hb5)
    clear hW5 hg5 hb5
    go_upto_region 4 with (go_at_call 11; refine (KPB.out _ SK.out ST.out).mono ?_; rintro e w7 ⟨u, rfl, hso, hb4⟩; obtain ⟨ba, bc, bb, bd, rfl, hn4, ht4⟩ := hso.forms; rw [HNB.out] at hn4 ⊢; rw [HNBT.out] at ht4 ⊢; replace s0 := cell_keep s0 hb4; replace s1 := cell_keep s1 hb4; replace qx0 := cell_keep qx0 hb4; replace qx1 := cell_keep qx1 hb4; replace ox0 := cell_keep ox0 hb4; replace ox1 := cell_keep ox1 hb4; replace a0 := cell_keep a0 hb4; replace a1 := cell_keep a1 hb4; replace SK := Lib.hid (SK.out.below hb4); replace SA := Lib.hid (SA.out.below hb4); replace ST := Lib.hid (ST.out.belowB hb4); replace SA2 := Lib.hid (SA2.out.belowB hb4); replace BB := Lib.hid (below_step BB.out hb4); have SB := Lib.hid hn4; have SB2 := Lib.hid ht4; clear hb4 hso hn4 ht4)
    obtain ⟨W7, gb, hW5, hg5, -, b0, b1, hb5⟩ := boxS w7 (.slice ba nb bc) (.slice bb nbt bd) 25
    rw [hW5, hg5]
    replace SB := Lib.hid (SB.out.below hb5); replace SB2 := Lib.hid (SB2.out.belowB hb5)
    replace s0 := cell_keep s0 hb5; replace s1 := cell_keep s1 hb5; replace qx0 := cell_keep qx0 hb5; replace qx1 := cell_keep qx1 hb5; replace ox0 := cell_keep ox0 hb5; replace ox1 := cell_keep ox1 hb5; replace a0 := cell_keep a0 hb5; replace a1 := cell_keep a1 hb5; replace SK := Lib.hid (SK.out.below hb5); replace SA := Lib.hid (SA.out.below hb5); replace ST := Lib.hid (ST.out.belowB hb5); replace SA2 := Lib.hid (SA2.out.belowB hb5); replace BB := Lib.hid (below_step BB.out hb5)
    clear hW5 hg5 hb5
    clear KPA KPB
    have hgd := guard_nd
    have heq := eq_nd q1 q2 o1 o2
    cases hx : okS K T
    · have h1 := HPA.out
      rw [putE_no (by rw [hx]; rfl)] at h1
      obtain ⟨rfl, h2⟩ := Prod.mk.inj h1
      obtain ⟨rfl, rfl⟩ := Prod.mk.inj h2
      clear h1 h2 hx heq hgd
      go_wp2_with (go_at_call 18; refine (sawake_any _).mono ?_; rintro e w9 ⟨rfl, hb9⟩; replace BB := Lib.hid (below_step BB.out hb9); clear hb9)
      go_ret
      exact ⟨rfl, BB.out⟩
    · cases hy : okN (q1, q2)
      · have h1 := HPA.out
        rw [putE_no (by rw [hx, hy]; rfl)] at h1
        obtain ⟨rfl, h2⟩ := Prod.mk.inj h1
        obtain ⟨rfl, rfl⟩ := Prod.mk.inj h2
        clear h1 h2 hx hy heq hgd
        go_wp2_with (go_at_call 18; refine (sawake_any _).mono ?_; rintro e w9 ⟨rfl, hb9⟩; replace BB := Lib.hid (below_step BB.out hb9); clear hb9)
        go_ret
        exact ⟨rfl, BB.out⟩
      · have h1 := HPA.out
        obtain ⟨z1, z2, z3⟩ := okS_zip hx
        have e5 := putE_yes (S := K.zip T) (t := [49]) z3 hy
        rw [z1, z2] at e5
        rw [e5] at h1
        obtain ⟨ha1, h2⟩ := Prod.mk.inj h1
        obtain ⟨ha2, rfl⟩ := Prod.mk.inj h2
        clear h1 h2 e5
        cases ho : okN (o1, o2)
        · have h1 := HPB.out
          rw [putE_no (by rw [hx, ho]; rfl)] at h1
          obtain ⟨rfl, h2⟩ := Prod.mk.inj h1
          obtain ⟨rfl, rfl⟩ := Prod.mk.inj h2
          clear h1 h2 hx hy ho heq hgd z1 z2 z3 ha1 ha2
          go_wp2_with (go_at_call 18; refine (sawake_any _).mono ?_; rintro e w9 ⟨rfl, hb9⟩; replace BB := Lib.hid (below_step BB.out hb9); clear hb9)
          go_ret
          exact ⟨rfl, BB.out⟩
        · have h1 := HPB.out
          have e5 := putE_yes (S := K.zip T) (t := [50]) z3 ho
          rw [z1, z2] at e5
          rw [e5] at h1
          obtain ⟨hb1, h2⟩ := Prod.mk.inj h1
          obtain ⟨hb2, rfl⟩ := Prod.mk.inj h2
          clear h1 h2 e5
          by_cases hne : (q1, q2) = (o1, o2)
          · rw [decide_eq_true hne] at heq
            clear hne hx hy ho z1 z2 z3 ha1 ha2 hb1 hb2
            go_wp2_with (go_at_call 18; refine (sawake_any _).mono ?_; rintro e w9 ⟨rfl, hb9⟩; replace BB := Lib.hid (below_step BB.out hb9); clear hb9)
            go_ret
            exact ⟨rfl, BB.out⟩
          · rw [decide_eq_false hne] at heq
            obtain ⟨SA0, hSA0⟩ : ∃ r, putP (K.zip T) (q1, q2) [49] = r := ⟨_, rfl⟩
            obtain ⟨SB0, hSB0⟩ : ∃ r, putP (K.zip T) (o1, o2) [50] = r := ⟨_, rfl⟩
            have hokA := put_ok (t := [49]) z3 hy
            have hokB := put_ok (t := [50]) z3 ho
            have hsw := put_put (a := [49]) (b := [50]) z3 hy ho hne
            rw [hSA0] at ha1 ha2 hokA hsw
            rw [hSB0] at hb1 hb2 hokB hsw
            obtain ⟨SX0, hSX0⟩ : ∃ r, putP SA0 (o1, o2) [50] = r := ⟨_, rfl⟩
            have exx := putE_yes (S := SA0) (t := [50]) hokA ho
            have exy := putE_yes (S := SB0) (t := [49]) hokB hy
            rw [hSX0] at exx
            rw [← hsw, hSX0] at exy
            have hokX := put_ok (t := [50]) hokA ho
            have hhasO := put_has (t := [50]) hokA ho
            have hhasQ := (put_other' (t := [50]) hokA ho hne).1
            have hhq2 := put_has (t := [49]) z3 hy
            rw [hSA0] at hhq2
            rw [hhq2] at hhasQ
            rw [hSX0] at hokX hhasO hhasQ
            have exz := putE_yes (S := SX0) (t := [51]) hokX hy
            have hokZ := put_ok (t := [51]) hokX hy
            have exg := getE_yes (S := putP SX0 (q1, q2) [51]) hokZ hy
            rw [if_pos (put_has hokX hy), put_get hokX hy] at exg
            have exc := dropE_yes hokX hy
            have exd := dropE_yes hokX ho
            rw [hhasQ, if_pos rfl] at exc
            rw [hhasO, if_pos rfl] at exd
            have hlc := drop_len hokX hhasQ
            have hld := drop_len hokX hhasO
            rw [ha1, ha2] at exx
            rw [hb1, hb2] at exy
            have ksx := putE_small (K := A1) (T := A2) (t := [50]) KSA.out HSO.out
            have hlx := putE_len (K := A1) (T := A2) (n := (o1, o2)) (t := [50]) (m := 25) (by rw [HNA.out]; exact la1) (by rw [HNAT.out]; exact la2)
            rw [exx] at ksx hlx
            simp only at ksx hlx
            have kpx := fun w h h' => sput_any aa ab na ac nat ad A1 A2 o1 o2 [50] w h h' KSA.out HSO.out (by omega) (by omega)
            have kpy := fun w h h' => sput_any ba bb nb bc nbt bd B1 B2 q1 q2 [49] w h h' KSB.out HSQ.out (by omega) (by omega)
            rw [exx] at kpx
            rw [exy] at kpy
            obtain ⟨X1, hX1⟩ : ∃ r, SX0.map Prod.fst = r := ⟨_, rfl⟩
            obtain ⟨X2, hX2⟩ : ∃ r, SX0.map Prod.snd = r := ⟨_, rfl⟩
            rw [hX1, hX2] at kpx kpy exz exc exd hlx
            rw [hX1] at ksx
            obtain ⟨nx, hnx⟩ : ∃ r, X1.length = r := ⟨_, rfl⟩
            obtain ⟨nxt, hnxt⟩ : ∃ r, X2.length = r := ⟨_, rfl⟩
            rw [hnx, hnxt] at hlx
            obtain ⟨lx1, lx2⟩ := hlx
            have ksz := putE_small (K := X1) (T := X2) (t := [51]) ksx HSQ.out
            have hlz := putE_len (K := X1) (T := X2) (n := (q1, q2)) (t := [51]) (m := 26) (by rw [hnx]; exact lx1) (by rw [hnxt]; exact lx2)
            rw [exz] at ksz hlz
            simp only at kpx kpy ksz hlz
            obtain ⟨Z1, hZ1⟩ : ∃ r, (putP SX0 (q1, q2) [51]).map Prod.fst = r := ⟨_, rfl⟩
            obtain ⟨Z2, hZ2⟩ : ∃ r, (putP SX0 (q1, q2) [51]).map Prod.snd = r := ⟨_, rfl⟩
            rw [hZ1, hZ2] at exz exg hlz
            rw [hZ1] at ksz
            obtain ⟨nz, hnz⟩ : ∃ r, Z1.length = r := ⟨_, rfl⟩
            obtain ⟨nzt, hnzt⟩ : ∃ r, Z2.length = r := ⟨_, rfl⟩
            rw [hnz, hnzt] at hlz
            obtain ⟨lz1, lz2⟩ := hlz
            obtain ⟨C1, hC1⟩ : ∃ r, (dropP SX0 (q1, q2)).map Prod.fst = r := ⟨_, rfl⟩
            obtain ⟨C2, hC2⟩ : ∃ r, (dropP SX0 (q1, q2)).map Prod.snd = r := ⟨_, rfl⟩
            obtain ⟨D1, hD1⟩ : ∃ r, (dropP SX0 (o1, o2)).map Prod.fst = r := ⟨_, rfl⟩
            obtain ⟨D2, hD2⟩ : ∃ r, (dropP SX0 (o1, o2)).map Prod.snd = r := ⟨_, rfl⟩
            rw [hC1, hC2] at exc
            rw [hD1, hD2] at exd
            obtain ⟨nc, hnc⟩ : ∃ r, C1.length = r := ⟨_, rfl⟩
            obtain ⟨nct, hnct⟩ : ∃ r, C2.length = r := ⟨_, rfl⟩
            obtain ⟨ndd, hnd⟩ : ∃ r, D1.length = r := ⟨_, rfl⟩
            obtain ⟨nddt, hndt⟩ : ∃ r, D2.length = r := ⟨_, rfl⟩
            have hx1 : nx = nc + 1 := by rw [← hnx, ← hnc, ← hX1, ← hC1, List.length_map, List.length_map]; exact hlc
            have hx2 : nx = ndd + 1 := by rw [← hnx, ← hnd, ← hX1, ← hD1, List.length_map, List.length_map]; exact hld
            have hcd : ndd = nc := by omega
            subst hcd
            have hxI : (nx : Int) = (ndd : Int) + 1 := by omega
            have KPX := Lib.hid kpx; have KPY := Lib.hid kpy; have EXZ := Lib.hid exz; have EXG := Lib.hid exg; have EXC := Lib.hid exc; have EXD := Lib.hid exd; have HNX := Lib.hid hnx; have HNXT := Lib.hid hnxt; have HNZ := Lib.hid hnz; have HNZT := Lib.hid hnzt; have HNC := Lib.hid hnc; have HNCT := Lib.hid hnct; have HND := Lib.hid hnd; have HNDT := Lib.hid hndt; have KSX := Lib.hid ksx; have KSZ := Lib.hid ksz
            clear kpx kpy exx exy exz exg exc exd hnx hnxt hnz hnzt hnc hnct hnd hndt ksx ksz hx1 hx2 hlc hld hX1 hX2 hZ1 hZ2 hC1 hC2 hD1 hD2 hSA0 hSB0 hSX0 hokA hokB hokX hokZ hsw hhasO hhasQ hhq2 ha1 ha2 hb1 hb2 hne hx hy ho z1 z2 z3
            go_upto_region 7 with (go_at_call 11; refine (KPX.out _ SA.out SA2.out).mono ?_; rintro e w11 ⟨u, rfl, hso, hb4⟩; obtain ⟨xa, xc, xb, xd, rfl, hn4, ht4⟩ := hso.forms; rw [HNX.out] at hn4 ⊢; rw [HNXT.out] at ht4 ⊢; replace qx0 := cell_keep qx0 hb4; replace qx1 := cell_keep qx1 hb4; replace ox0 := cell_keep ox0 hb4; replace ox1 := cell_keep ox1 hb4; replace a0 := cell_keep a0 hb4; replace a1 := cell_keep a1 hb4; replace b0 := cell_keep b0 hb4; replace b1 := cell_keep b1 hb4; replace SA := Lib.hid (SA.out.below hb4); replace SB := Lib.hid (SB.out.below hb4); replace SA2 := Lib.hid (SA2.out.belowB hb4); replace SB2 := Lib.hid (SB2.out.belowB hb4); replace BB := Lib.hid (below_step BB.out hb4); have SX := Lib.hid hn4; have SX2 := Lib.hid ht4; clear hb4 hso hn4 ht4)
            obtain ⟨W11, gx, hW5, hg5, -, x0, x1, hb5⟩ := boxS w11 (.slice xa nx xc) (.slice xb nxt xd) 25
            rw [hW5, hg5]
            replace SX := Lib.hid (SX.out.below hb5); replace SX2 := Lib.hid (SX2.out.belowB hb5)
            replace qx0 := cell_keep qx0 hb5; replace qx1 := cell_keep qx1 hb5; replace ox0 := cell_keep ox0 hb5; replace ox1 := cell_keep ox1 hb5; replace a0 := cell_keep a0 hb5; replace a1 := cell_keep a1 hb5; replace b0 := cell_keep b0 hb5; replace b1 := cell_keep b1 hb5; replace SA := Lib.hid (SA.out.below hb5); replace SB := Lib.hid (SB.out.below hb5); replace SA2 := Lib.hid (SA2.out.belowB hb5); replace SB2 := Lib.hid (SB2.out.belowB hb5); replace BB := Lib.hid (below_step BB.out hb5)
            clear hW5 hg5 hb5
            go_upto_region 8 with (go_at_call 11; refine (KPY.out _ SB.out SB2.out).mono ?_; rintro e w13 ⟨u, rfl, hso, hb4⟩; obtain ⟨ya, yc, yb, yd, rfl, hn4, ht4⟩ := hso.forms; rw [HNX.out] at hn4 ⊢; rw [HNXT.out] at ht4 ⊢; replace qx0 := cell_keep qx0 hb4; replace qx1 := cell_keep qx1 hb4; replace ox0 := cell_keep ox0 hb4; replace ox1 := cell_keep ox1 hb4; replace a0 := cell_keep a0 hb4; replace a1 := cell_keep a1 hb4; replace b0 := cell_keep b0 hb4; replace b1 := cell_keep b1 hb4; replace x0 := cell_keep x0 hb4; replace x1 := cell_keep x1 hb4; replace SA := Lib.hid (SA.out.below hb4); replace SB := Lib.hid (SB.out.below hb4); replace SX := Lib.hid (SX.out.below hb4); replace SA2 := Lib.hid (SA2.out.belowB hb4); replace SB2 := Lib.hid (SB2.out.belowB hb4); replace SX2 := Lib.hid (SX2.out.belowB hb4); replace BB := Lib.hid (below_step BB.out hb4); have SY := Lib.hid hn4; have SY2 := Lib.hid ht4; clear hb4 hso hn4 ht4)
            obtain ⟨W13, gy, hW5, hg5, -, y0, y1, hb5⟩ := boxS w13 (.slice ya nx yc) (.slice yb nxt yd) 25
            rw [hW5, hg5]
            replace SY := Lib.hid (SY.out.below hb5); replace SY2 := Lib.hid (SY2.out.belowB hb5)
            replace qx0 := cell_keep qx0 hb5; replace qx1 := cell_keep qx1 hb5; replace ox0 := cell_keep ox0 hb5; replace ox1 := cell_keep ox1 hb5; replace a0 := cell_keep a0 hb5; replace a1 := cell_keep a1 hb5; replace b0 := cell_keep b0 hb5; replace b1 := cell_keep b1 hb5; replace x0 := cell_keep x0 hb5; replace x1 := cell_keep x1 hb5; replace SA := Lib.hid (SA.out.below hb5); replace SB := Lib.hid (SB.out.below hb5); replace SX := Lib.hid (SX.out.below hb5); replace SA2 := Lib.hid (SA2.out.belowB hb5); replace SB2 := Lib.hid (SB2.out.belowB hb5); replace SX2 := Lib.hid (SX2.out.belowB hb5); replace BB := Lib.hid (below_step BB.out hb5)
            clear hW5 hg5 hb5
            clear KPX KPY
            have kpz := fun w h h' => sput_any xa xb nx xc nxt xd X1 X2 q1 q2 [51] w h h' KSX.out HSQ.out (by omega) (by omega)
            rw [EXZ.out] at kpz
            simp only at kpz
            have KPZ := Lib.hid kpz; clear kpz
            go_upto_region 9 with (go_at_call 11; refine (KPZ.out _ SX.out SX2.out).mono ?_; rintro e w15 ⟨u, rfl, hso, hb4⟩; obtain ⟨za, zc, zb, zd, rfl, hn4, ht4⟩ := hso.forms; rw [HNZ.out] at hn4 ⊢; rw [HNZT.out] at ht4 ⊢; replace qx0 := cell_keep qx0 hb4; replace qx1 := cell_keep qx1 hb4; replace ox0 := cell_keep ox0 hb4; replace ox1 := cell_keep ox1 hb4; replace a0 := cell_keep a0 hb4; replace a1 := cell_keep a1 hb4; replace b0 := cell_keep b0 hb4; replace b1 := cell_keep b1 hb4; replace x0 := cell_keep x0 hb4; replace x1 := cell_keep x1 hb4; replace y0 := cell_keep y0 hb4; replace y1 := cell_keep y1 hb4; replace SA := Lib.hid (SA.out.below hb4); replace SB := Lib.hid (SB.out.below hb4); replace SX := Lib.hid (SX.out.below hb4); replace SY := Lib.hid (SY.out.below hb4); replace SA2 := Lib.hid (SA2.out.belowB hb4); replace SB2 := Lib.hid (SB2.out.belowB hb4); replace SX2 := Lib.hid (SX2.out.belowB hb4); replace SY2 := Lib.hid (SY2.out.belowB hb4); replace BB := Lib.hid (below_step BB.out hb4); have SZ := Lib.hid hn4; have SZ2 := Lib.hid ht4; clear hb4 hso hn4 ht4)
            obtain ⟨W15, gz, hW5, hg5, -, z0, z1, hb5⟩ := boxS w15 (.slice za nz zc) (.slice zb nzt zd) 25
            rw [hW5, hg5]
            replace SZ := Lib.hid (SZ.out.below hb5); replace SZ2 := Lib.hid (SZ2.out.belowB hb5)
            replace qx0 := cell_keep qx0 hb5; replace qx1 := cell_keep qx1 hb5; replace ox0 := cell_keep ox0 hb5; replace ox1 := cell_keep ox1 hb5; replace a0 := cell_keep a0 hb5; replace a1 := cell_keep a1 hb5; replace b0 := cell_keep b0 hb5; replace b1 := cell_keep b1 hb5; replace x0 := cell_keep x0 hb5; replace x1 := cell_keep x1 hb5; replace y0 := cell_keep y0 hb5; replace y1 := cell_keep y1 hb5; replace SA := Lib.hid (SA.out.below hb5); replace SB := Lib.hid (SB.out.below hb5); replace SX := Lib.hid (SX.out.below hb5); replace SY := Lib.hid (SY.out.below hb5); replace SA2 := Lib.hid (SA2.out.belowB hb5); replace SB2 := Lib.hid (SB2.out.belowB hb5); replace SX2 := Lib.hid (SX2.out.belowB hb5); replace SY2 := Lib.hid (SY2.out.belowB hb5); replace BB := Lib.hid (below_step BB.out hb5)
            clear hW5 hg5 hb5
            have kgz := fun w h h' => sget_any za zb nz zc nzt zd Z1 Z2 q1 q2 w h h' KSZ.out HSQ.out (by omega)
            rw [EXG.out] at kgz
            simp only at kgz
            have KGZ := Lib.hid kgz; clear kgz KPZ a0 a1 b0 b1
            go_upto_region 10 with (go_at_call 10; refine (KGZ.out _ SZ.out SZ2.out).mono ?_; rintro e w16 ⟨rfl, hb4⟩; replace qx0 := cell_keep qx0 hb4; replace qx1 := cell_keep qx1 hb4; replace ox0 := cell_keep ox0 hb4; replace ox1 := cell_keep ox1 hb4; replace x0 := cell_keep x0 hb4; replace x1 := cell_keep x1 hb4; replace y0 := cell_keep y0 hb4; replace y1 := cell_keep y1 hb4; replace z0 := cell_keep z0 hb4; replace z1 := cell_keep z1 hb4; replace SX := Lib.hid (SX.out.below hb4); replace SY := Lib.hid (SY.out.below hb4); replace SZ := Lib.hid (SZ.out.below hb4); replace SX2 := Lib.hid (SX2.out.belowB hb4); replace SY2 := Lib.hid (SY2.out.belowB hb4); replace SZ2 := Lib.hid (SZ2.out.belowB hb4); replace BB := Lib.hid (below_step BB.out hb4); clear hb4 KGZ)
            have kdc := fun w h h' => sdrop_any xa xb nx xc nxt xd X1 X2 q1 q2 w h h' KSX.out HSQ.out (by omega) (by omega)
            have kdd := fun w h h' => sdrop_any xa xb nx xc nxt xd X1 X2 o1 o2 w h h' KSX.out HSO.out (by omega) (by omega)
            rw [EXC.out] at kdc
            rw [EXD.out] at kdd
            simp only at kdc kdd
            have KDC := Lib.hid kdc; have KDD := Lib.hid kdd; clear kdc kdd z0 z1
            go_upto_region 11 with (go_at_call 12; refine (KDC.out _ SX.out SX2.out).mono ?_; rintro e w18 ⟨u, rfl, hso, hb4⟩; obtain ⟨ca, cc, cb, cd, rfl, hn4, ht4⟩ := hso.forms; rw [HNC.out] at hn4 ⊢; rw [HNCT.out] at ht4 ⊢; replace ox0 := cell_keep ox0 hb4; replace ox1 := cell_keep ox1 hb4; replace qx0 := cell_keep qx0 hb4; replace qx1 := cell_keep qx1 hb4; replace x0 := cell_keep x0 hb4; replace x1 := cell_keep x1 hb4; replace y0 := cell_keep y0 hb4; replace y1 := cell_keep y1 hb4; replace SX := Lib.hid (SX.out.below hb4); replace SY := Lib.hid (SY.out.below hb4); replace SX2 := Lib.hid (SX2.out.belowB hb4); replace SY2 := Lib.hid (SY2.out.belowB hb4); replace BB := Lib.hid (below_step BB.out hb4); have SC := Lib.hid hn4; have SC2 := Lib.hid ht4; clear hb4 hso hn4 ht4)
            obtain ⟨W18, gc, hW5, hg5, -, c0, c1, hb5⟩ := boxS w18 (.slice ca ndd cc) (.slice cb nct cd) 25
            rw [hW5, hg5]
            replace SC := Lib.hid (SC.out.below hb5); replace SC2 := Lib.hid (SC2.out.belowB hb5)
            replace ox0 := cell_keep ox0 hb5; replace ox1 := cell_keep ox1 hb5; replace qx0 := cell_keep qx0 hb5; replace qx1 := cell_keep qx1 hb5; replace x0 := cell_keep x0 hb5; replace x1 := cell_keep x1 hb5; replace y0 := cell_keep y0 hb5; replace y1 := cell_keep y1 hb5; replace SX := Lib.hid (SX.out.below hb5); replace SY := Lib.hid (SY.out.below hb5); replace SX2 := Lib.hid (SX2.out.belowB hb5); replace SY2 := Lib.hid (SY2.out.belowB hb5); replace BB := Lib.hid (below_step BB.out hb5)
            clear hW5 hg5 hb5
            go_upto_region 12 with (go_at_call 12; refine (KDD.out _ SX.out SX2.out).mono ?_; rintro e w20 ⟨u, rfl, hso, hb4⟩; obtain ⟨da, dc, db, dd, rfl, hn4, ht4⟩ := hso.forms; rw [HND.out] at hn4 ⊢; rw [HNDT.out] at ht4 ⊢; replace ox0 := cell_keep ox0 hb4; replace ox1 := cell_keep ox1 hb4; replace x0 := cell_keep x0 hb4; replace x1 := cell_keep x1 hb4; replace y0 := cell_keep y0 hb4; replace y1 := cell_keep y1 hb4; replace c0 := cell_keep c0 hb4; replace c1 := cell_keep c1 hb4; replace SX := Lib.hid (SX.out.below hb4); replace SY := Lib.hid (SY.out.below hb4); replace SC := Lib.hid (SC.out.below hb4); replace SX2 := Lib.hid (SX2.out.belowB hb4); replace SY2 := Lib.hid (SY2.out.belowB hb4); replace SC2 := Lib.hid (SC2.out.belowB hb4); replace BB := Lib.hid (below_step BB.out hb4); have SD := Lib.hid hn4; have SD2 := Lib.hid ht4; clear hb4 hso hn4 ht4)
            obtain ⟨W20, gdd, hW5, hg5, -, d0, d1, hb5⟩ := boxS w20 (.slice da ndd dc) (.slice db nddt dd) 25
            rw [hW5, hg5]
            replace SD := Lib.hid (SD.out.below hb5); replace SD2 := Lib.hid (SD2.out.belowB hb5)
            replace ox0 := cell_keep ox0 hb5; replace ox1 := cell_keep ox1 hb5; replace x0 := cell_keep x0 hb5; replace x1 := cell_keep x1 hb5; replace y0 := cell_keep y0 hb5; replace y1 := cell_keep y1 hb5; replace c0 := cell_keep c0 hb5; replace c1 := cell_keep c1 hb5; replace SX := Lib.hid (SX.out.below hb5); replace SY := Lib.hid (SY.out.below hb5); replace SC := Lib.hid (SC.out.below hb5); replace SX2 := Lib.hid (SX2.out.belowB hb5); replace SY2 := Lib.hid (SY2.out.belowB hb5); replace SC2 := Lib.hid (SC2.out.belowB hb5); replace BB := Lib.hid (below_step BB.out hb5)
            clear hW5 hg5 hb5
            have hq : ((mkB [51]).toList == [51]) = true := by decide +kernel
            go_wp2_with (first
              | (go_at_call 15; refine (ssame_any xa xb ya yb nx xc nxt xd nx yc nxt yd X1 X1 X2 X2 _ SX.out SX2.out SY.out SY2.out).mono ?_; rintro e w9 ⟨rfl, hb9⟩; rw [sameS_self]; replace x0 := cell_keep x0 hb9; replace x1 := cell_keep x1 hb9; replace y0 := cell_keep y0 hb9; replace y1 := cell_keep y1 hb9; replace c0 := cell_keep c0 hb9; replace c1 := cell_keep c1 hb9; replace d0 := cell_keep d0 hb9; replace d1 := cell_keep d1 hb9; replace SX := Lib.hid (SX.out.below hb9); replace SY := Lib.hid (SY.out.below hb9); replace SX2 := Lib.hid (SX2.out.belowB hb9); replace SY2 := Lib.hid (SY2.out.belowB hb9); replace BB := Lib.hid (below_step BB.out hb9); clear hb9)
              | (go_at_call 18; refine (sawake_any _).mono ?_; rintro e w9 ⟨rfl, hb9⟩; replace BB := Lib.hid (below_step BB.out hb9); clear hb9))
            go_ret
            exact ⟨rfl, BB.out⟩

theorem own : ownKnob Try.prog.godebug = none := by kernel_rfl
theorem laidOut : laidOutB Try.prog = true := by kernel_rfl

set_option maxRecDepth 100000 in
theorem lifted (os : Os) (started : os.Started) (H : Type) (enc : TypeId × Value → H) :
    ReturnsInHanded {} Try.checked os 5 .any (Rows.storeOrderSpec.pre6 enc Try.prog Try.f5 Rows.storeOrderRow.domain false) (Rows.storeOrderSpec.post enc Try.prog Try.f5 false true false false) := by
  refine returnsInHanded_of_change (C := Try.checked) own started (by kernel_rfl) Try.func5
    (ChangeSpec.witness6 (enc := enc) (C := Try.checked) false ⟨#[], #[.agg #[.slice none 0 0, .slice none 0 0], .agg #[.string ByteArray.empty, .string ByteArray.empty], .agg #[.string ByteArray.empty, .string ByteArray.empty]], []⟩ 8 (by kernel_rfl) (by kernel_rfl) (by kernel_rfl) (by kernel_rfl)) ?_
  intro W base args ds gs before hval0 hW hcnd _
  have hval : ∀ (j : Nat) t v, Try.f5.params[j]? = some t → args[j]? = some v → Value.okWide Try.prog W .any base t v := hval0
  have hW' := hW
  obtain ⟨p, q, hA0, hV, rfl, hfz, hnd⟩ := hW
  have hA : DataW.TrodAll enc Try.prog W 0 (fun _ => true) true Try.f5.params.toList args.toList ds p := hA0
  rw [Try.params5] at hA hval
  obtain ⟨v0, vs0, d0, ds0, p0, q0, hargs, rfl, rfl, h0, r0⟩ := trodAll_cons hA
  obtain ⟨v1, vs1, d1, ds1, p1, q1, rfl, rfl, rfl, h1, r1⟩ := trodAll_cons r0
  obtain ⟨v2, vs2, d2, ds2, p2, q2, rfl, rfl, rfl, h2, r2⟩ := trodAll_cons r1
  obtain ⟨rfl, rfl, rfl⟩ := trodAll_nil r2
  obtain rfl : args = #[v0, v1, v2] := by cases args; simp_all
  obtain ⟨rfl, rfl⟩ := trodVars_none hV
  have k0 := h0
  have lt0 : ∀ x ∈ p0, x.block < W.heap.size := by obtain ⟨m, hm⟩ := k0; exact DataW.trod_lt m _ _ _ hm
  obtain ⟨z0, w0⟩ := sto_open (hval 0 25 v0 rfl rfl) h0
  have k1 := h1
  have lt1 : ∀ x ∈ p1, x.block < W.heap.size := by obtain ⟨m, hm⟩ := k1; exact DataW.trod_lt m _ _ _ hm
  obtain ⟨z1, w1⟩ := node_open (hval 1 27 v1 rfl rfl) h1
  have k2 := h2
  have lt2 : ∀ x ∈ p2, x.block < W.heap.size := by obtain ⟨m, hm⟩ := k2; exact DataW.trod_lt m _ _ _ hm
  obtain ⟨z2, w2⟩ := node_open (hval 2 27 v2 rfl rfl) h2
  clear hA0 hval0
  refine (walk _ z0 _ z1 _ z2 W w0 w1 w2).mono fun e W' ⟨he, bel⟩ => ?_
  subst he
  exact ⟨_, rfl, _, _, _, [], _, [], hW', trodAll_mk1 (shut_bool Try.underlying4 _), (trodAll_cons_mk (Below.trod laidOut (by kernel_rfl) (of_decide_eq_true (by kernel_rfl)) k0 bel lt0) (trodAll_cons_mk (Below.trod laidOut (by kernel_rfl) (of_decide_eq_true (by kernel_rfl)) k1 bel lt1) (trodAll_cons_mk (Below.trod laidOut (by kernel_rfl) (of_decide_eq_true (by kernel_rfl)) k2 bel lt2) trodAll_mk0))), rfl, bel.frame _, fun h => by cases h⟩

-- the given statement
theorem proved : Rows.StoreOrderSaid :=
  OpenClaim.holds_of_wide 5 Try.f5 rfl rfl rfl rfl rfl rfl rfl ⟨rfl, rfl, rfl, rfl, rfl⟩ rfl rfl rfl rfl rfl (by kernel_rfl) Try.func5 (by kernel_rfl)
    (of_decide_eq_true (by kernel_rfl)) (by unfold Func.isWrapper; first | (rw [if_pos (by decide +kernel)]; kernel_rfl) | (rw [if_neg (by decide +kernel)]; exact ⟨rfl, rfl⟩))
    (fun os started H enc _ => lifted os started H enc)
end Go.Proofs.Ytceefoiffkgliaa.storeOrder
