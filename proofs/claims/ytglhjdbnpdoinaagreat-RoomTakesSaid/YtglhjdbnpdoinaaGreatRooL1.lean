/- Of every use, every node and every list of nodes (no more, and no longer, than are looked at): which use may be, and it with a manifest more, and less, or why not, are as the document says; no condition. -/
import Derived.Test.YtglhjdbnpdoinaaGreatRows
import Derived.Test.YtglhjdbnpdoinaaGreatRooN
import Derived.ProofKit
import Derived.OpenShut
import Derived.ShutString
import Derived.ChangeOld
namespace Go.Proofs.YtglhjdbnpdoinaaGreat.roomTakes
open Go.ChangeShapes Go.WideShapes Go.ChangeAt Go.RowKit
open Go.ChangeMaps (open_string shut_string)
set_option maxRecDepth 100000
set_option linter.unusedVariables false

set_option maxRecDepth 100000 in
set_option maxHeartbeats 6400000 in
theorem walk (M : Value) (u : Us) (Q : Value) (q : Nd) (Z : Value) (L0 : List Nd) (w : World) (hM : UseIn w M u) (hQ : Q = .agg #[.string (mkB q.1), .string (mkB q.2)] ∧ fitsN q) (hZ : Nds w Z L0 ∧ ∀ n ∈ L0, fitsN n) :
    Calls Tryz.prog 3 #[M, Q, Z] w fun e w' => e = .returned (.bool true) ∧ Below w.heap.size w w' := by
  obtain ⟨⟨A, n, c, rfl, hk⟩, fm, fe, fs⟩ := hM
  obtain ⟨m, e, s0⟩ := u
  simp only at hk fm fe fs ⊢
  have hfw := fun w h => fewu_any m e A n c s0 w h fs
  have hsl := fewDs_len s0
  have hss := fewDs_small fs
  obtain ⟨s, hs⟩ : ∃ r, fewDs s0 = r := ⟨_, rfl⟩
  rw [hs] at hfw hsl hss
  obtain ⟨ns, hns⟩ : ∃ r, s.length = r := ⟨_, rfl⟩
  rw [hns] at hsl
  obtain ⟨rfl, fq⟩ := hQ
  obtain ⟨pq, vq⟩ := q
  simp only at fq ⊢
  have hsq := oneN_small (pq, vq)
  have hoq := fun w => one_any pq vq w fq.1 fq.2
  obtain ⟨q1, hq1⟩ : ∃ r, fewL pq = r := ⟨_, rfl⟩
  obtain ⟨q2, hq2⟩ : ∃ r, fewL vq = r := ⟨_, rfl⟩
  have hsq2 : smallN (q1, q2) := by rw [← hq1, ← hq2]; exact hsq
  try simp only at hoq
  rw [hq1, hq2] at hoq
  obtain ⟨hz, fz⟩ := hZ
  have hfl := fun w h => nfewo_any Z L0 w h fz
  obtain ⟨pL, cL, rfl, -⟩ := hz.ex
  obtain ⟨mL, hmL⟩ : ∃ r, L0.length = r := ⟨_, rfl⟩
  rw [hmL] at hz hfl ⊢
  have hll := fewNs_len L0
  have hls := fewNs_small L0
  obtain ⟨L, hL⟩ : ∃ r, fewNs L0 = r := ⟨_, rfl⟩
  rw [hL] at hfl hll hls
  obtain ⟨nL, hnL⟩ : ∃ r, L.length = r := ⟨_, rfl⟩
  rw [hnL] at hll
  obtain ⟨W, gs, gq, hW, hg, hg', r0, r1, hb⟩ := boxUN w (.int .i64 m) (.int .i64 e) (.slice A n c) (.string (mkB pq)) (.string (mkB vq)) 24 26
  have SK0 := Lib.hid hk; have SL0 := Lib.hid hz; have RS := Lib.hid r0; have RQ := Lib.hid r1; have HFW := Lib.hid hfw; have HFL := Lib.hid hfl; have HOQ := Lib.hid hoq; have HNS := Lib.hid hns; have HSS := Lib.hid hss; have HSQ := Lib.hid hsq2; have HNL := Lib.hid hnL; have HSL := Lib.hid hls
  have HLS := Lib.hid (show w.heap.size ≤ gs by omega); have HLQ := Lib.hid (show w.heap.size ≤ gq by omega); have HQS := Lib.hid (show ¬ gq = gs by omega)
  have BB := Lib.hid hb; have HW := Lib.hid hW; have HG := Lib.hid hg; have HG' := Lib.hid hg'
  clear hk hz r0 r1 hfw hfl hoq hns hss hsq hsq2 hb hW hg hg' hs hq1 hq2 fm fe fs fq fz hL hls hnL hmL
  have e1 : ∀ args w, (callFunc 10 args).run Tryz.prog w = .ok (.enter 10 args) w := enters_of Tryz.func10 (by kernel_rfl) rfl
  have e2 : ∀ args w, (callFunc 11 args).run Tryz.prog w = .ok (.enter 11 args) w := enters_of Tryz.func11 (by kernel_rfl) rfl
  have e3 : ∀ args w, (callFunc 12 args).run Tryz.prog w = .ok (.enter 12 args) w := enters_of Tryz.func12 (by kernel_rfl) rfl
  go_enter Tryz.func3, Tryz.ntmps3
  go_upto_region 1 with fail
  rw [HW.out, HG'.out, HG.out]
  refine rol_run (by kernel_rfl) [[], [0], [], [0, 1, 2], [], [0, 1, 2, 3, 4], [0, 1, 2, 3, 4, 5], [0, 1, 2, 3, 4, 5, 6], [0, 1, 2, 3, 4, 5, 6, 7]] (by kernel_rfl) [16, 17, 18, 19, 20, 21, 2] [[9], [0], [10], [2], [11], [4], [1, 9], [3, 10], [5]] [0, 1, 0, 0, 0, 5, 3, 4, 5, 3, 4, 0] [0, 0, 0, 0, 0, 0, 3, 4, 0] [1000, 1000, 1000, 1000, 1000, 1000, 1000, 1000, 1000, 6, 7, 8] [.val 16 (.agg #[.int .i64 m, .int .i64 e, .slice A n c]), .mem 17 (useG W.heap.size m e s), .val 18 (.agg #[.string (mkB pq), .string (mkB vq)]), .val 19 (.agg #[.string (mkB q1), .string (mkB q2)]), .val 20 (.slice pL mL cL), .mem 21 (rowG W.heap.size 26 2 L.length (ndsC L)), .mem 17 (boxUG gs 24), .box (gq) (.cells #[.string (mkB q1), .string (mkB q2)] 26), .mem 2 (rowG W.heap.size 26 2 L.length (ndsC L)), .box (gs) (.cells #[.int .i64 m, .int .i64 e, .slice A n c] 24), .box (gq) (.cells #[.string (mkB pq), .string (mkB vq)] 26), .val 2 (.slice pL mL cL)] (by kernel_rfl) ?_ (w.heap.size) (W.heap.size) rfl BB.out rfl (fun k => if k = gs then 3 else if k = gq then 4 else 6) ?_ ?_ ?_
  · intro j hj
    have hj3 : j < 12 := hj
    have hj2 : j = 0 ∨ j = 1 ∨ j = 2 ∨ j = 3 ∨ j = 4 ∨ j = 5 ∨ j = 6 ∨ j = 7 ∨ j = 8 ∨ j = 9 ∨ j = 10 ∨ j = 11 := by omega
    clear hj hj3
    rcases hj2 with rfl | rfl | rfl | rfl | rfl | rfl | rfl | rfl | rfl | rfl | rfl | rfl
    · exact trivial
    · exact useG_near
    · exact trivial
    · exact trivial
    · exact trivial
    · exact rowG_near
    · exact boxUG_near
    · exact trivial
    · exact rowG_near
    · exact trivial
    · exact trivial
    · exact trivial
  · intro j hj0 hj
    have hj1 : 9 ≤ j := hj0
    have hj3 : j < 12 := hj
    have hj2 : j = 9 ∨ j = 10 ∨ j = 11 := by omega
    clear hj0 hj hj1 hj3
    rcases hj2 with rfl | rfl | rfl
    · exact ⟨RS.out, if_pos rfl⟩
    · exact ⟨RQ.out, (if_neg HQS.out).trans (if_pos rfl)⟩
    · exact rfl
  · intro i hi a wx who hG hF
    have hz : a.tmps.size = 151 := hG.size
    have hi3 : i < 9 := hi
    have hi2 : i = 0 ∨ i = 1 ∨ i = 2 ∨ i = 3 ∨ i = 4 ∨ i = 5 ∨ i = 6 ∨ i = 7 ∨ i = 8 := by omega
    clear hi hi3
    rcases hi2 with rfl | rfl | rfl | rfl | rfl | rfl | rfl | rfl | rfl
    · exact rol_val rfl rfl rfl (by rw [hz]; decide) (ex_load rfl (eval_slot ((hG.slots 3 (by decide)).trans rfl)) (ld_use (hF 9 (by decide)).1)) hG.below
    · refine rol_calls rfl rfl rfl (by rw [hz]; decide) (ex_call rfl (by simp [eval_slot (hF 0 (by decide))]) e1) (HFW.out wx (SK0.out.below hG.below)) ?_ hG.below (Nat.le_trans BB.out.size hG.new)
      rintro e w1 ⟨u, rfl, hown, hb1⟩
      exact ⟨_, rfl, hb1, .inr (.inl ⟨_, u.ownBlock, rfl, fun b e => hown.lt b e, u, rfl, row_base hown hG.new, rfl⟩)⟩
    · exact rol_val rfl rfl rfl (by rw [hz]; decide) (ex_load rfl (eval_slot ((hG.slots 4 (by decide)).trans rfl)) (ld_node (row2 (hF 10 (by decide)).1).1 (row2 (hF 10 (by decide)).1).2.1)) hG.below
    · refine rol_calls rfl rfl rfl (by rw [hz]; decide) (ex_call rfl (by simp [eval_slot (hF 2 (by decide))]) e2) (HOQ.out wx) ?_ hG.below (Nat.le_trans BB.out.size hG.new)
      rintro e w1 ⟨rfl, hb1⟩
      exact ⟨_, rfl, hb1, .inl rfl⟩
    · exact rol_val rfl rfl rfl (by rw [hz]; decide) (ex_move (Or.inl rfl) (eval_slot (hF 11 (by decide)))) hG.below
    · refine rol_calls rfl rfl rfl (by rw [hz]; decide) (ex_call rfl (by simp [eval_slot (hF 4 (by decide))]) e3) (HFL.out wx (SL0.out.below hG.below)) ?_ hG.below (Nat.le_trans BB.out.size hG.new)
      rintro e w1 ⟨u, rfl, hown, hb1⟩
      exact ⟨u, rfl, hb1, .inr (.inl ⟨_, u.ownBlock, rfl, fun b e => hown.lt b e, row_base hown hG.new, rfl⟩)⟩
    · exact rol_boxU rfl rfl rfl rfl (eval_slot ((hG.slots 3 (by decide)).trans rfl)) (hF 1 (by decide)) (hF 9 (by decide)) hG.below HLS.out
    · exact rol_boxN rfl rfl rfl rfl (eval_slot ((hG.slots 4 (by decide)).trans rfl)) (eval_slot (hF 3 (by decide))) (hF 10 (by decide)) hG.below HLQ.out
    · exact rol_move rfl rfl rfl (by rw [hz]; decide) (Or.inr rfl) (hF 5 (by decide)) hG.below
  · intro a wx who hG hF
    obtain ⟨v17, ob17, fv17, fo17, fp17⟩ := hF 1 (of_decide_eq_true (by kernel_rfl)) (of_decide_eq_true (by kernel_rfl))
    replace fv17 : a.tmps.getD 17 undef = v17 := eval_slot (s := 17) fv17
    obtain ⟨v2, ob2, fv2, fo2, fp2⟩ := hF 8 (of_decide_eq_true (by kernel_rfl)) (of_decide_eq_true (by kernel_rfl))
    replace fv2 : a.tmps.getD 2 undef = v2 := eval_slot (s := 2) fv2
    have hbox := hF 6 (of_decide_eq_true (by kernel_rfl)) (of_decide_eq_true (by kernel_rfl))
    have hbq := hF 7 (of_decide_eq_true (by kernel_rfl)) (of_decide_eq_true (by kernel_rfl))
    obtain ⟨p11, ob11, hp11, -, -, x11, y11, z11, hv11, hrow11⟩ := hbox
    have e11 : v17 = p11 := fv17.symm.trans (eval_slot hp11)
    subst e11
    clear hp11 ob11
    replace hbq := hbq.1
    have hbx := hG.below
    have hnx := hG.new
    rw [hG.frame]
    simp only [List.foldl_cons, List.foldl_nil, List.setIfInBounds_toArray, List.set_cons_zero, List.set_cons_succ]
    generalize a.tmps.getD 16 undef = u16
    rw [fv17]
    generalize a.tmps.getD 18 undef = u18
    generalize a.tmps.getD 19 undef = u19
    generalize a.tmps.getD 20 undef = u20
    generalize a.tmps.getD 21 undef = u21
    rw [fv2]
    clear hF hG fv17 fv2
    obtain ⟨x12, hx12, hrow, -⟩ := fp17
    obtain ⟨aS, cS, rfl, hd⟩ := dfsO hrow
    rw [hv11] at hx12
    injection hx12 with hx12
    injection hx12 with hx12
    injection hx12 with r1 hx12
    injection hx12 with r2 hx12
    injection hx12 with r3 _
    subst r1 r2 r3 hv11
    rw [HNS.out] at hd hrow11 ⊢
    obtain ⟨s0, s1, s2, -⟩ := row3 hrow11
    obtain ⟨qx0, qx1, -, -⟩ := row2 hbq
    have SS := Lib.hid hd
    obtain ⟨hrow2, -⟩ := fp2
    obtain ⟨aL, cL2, rfl, hdl⟩ := ndsO hrow2
    rw [HNL.out] at hdl ⊢
    have SL := Lib.hid hdl
    replace BB := Lib.hid hbx
    clear fo17 hrow hrow11 hbq hd hbx hnx SK0 RS RQ HFW HOQ hrow2 hdl fo2 SL0 HFL
    have ka := fun w h h' => take_any m e aS ns cS s q1 q2 (.slice aL nL cL2) L w h h' HSS.out HSQ.out HSL.out (by rw [HNS.out]; omega) (by rw [HNL.out]; omega)
    have kb := fun w h h' => give_any m e aS ns cS s q1 q2 (.slice aL nL cL2) L w h h' HSS.out HSQ.out HSL.out (by rw [HNS.out]; omega) (by rw [HNL.out]; omega)
    have kc := fun w h => ucheck_any m e aS ns cS s w h HSS.out (by rw [HNS.out]; omega)
    have km := fun w h => refumay_any m e aS ns cS s w h HSS.out
    have sZ : ∀ x ∈ L ++ [(q1, q2)], smallN x := fun x hx => by
      rcases List.mem_append.1 hx with q | q
      · exact HSL.out x q
      · rw [List.mem_singleton.1 q]; exact HSQ.out
    have hZl : (L ++ [(q1, q2)]).length = nL + 1 := by rw [List.length_append, HNL.out]; rfl
    have hal : allN2 (L ++ [(q1, q2)]) = allN2 ((q1, q2) :: L) := by unfold allN2; rw [List.all_append, List.all_cons, List.all_cons, List.all_nil, Bool.and_true, Bool.and_comm]
    have kn := fun V w h => refnodes_any V (L ++ [(q1, q2)]) w h sZ
    rw [hal] at kn
    cases ho : okU m e s
    · obtain ⟨ZZ, hZZ⟩ : ∃ Z, Z = L ++ [(q1, q2)] := ⟨_, rfl⟩
      rw [← hZZ] at kn sZ hZl
      have HZZ := Lib.hid hZZ; have HZZL := Lib.hid hZl
      have hno : (Us.ok ⟨m, e, s⟩ && (allN2 [] && allN2 ((q1, q2) :: L))) = false := by rw [show Us.ok ⟨m, e, s⟩ = false from ho]; rfl
      have hno2 : (Us.ok ⟨m, e, s⟩ && (allN2 ((q1, q2) :: L) && allN2 [])) = false := by rw [show Us.ok ⟨m, e, s⟩ = false from ho]; rfl
      rw [chgE_no hno] at ka
      rw [chgE_no hno2] at kb
      rw [chkU_no ho] at kc
      rw [ho] at km
      simp only at ka kb
      obtain ⟨an, han⟩ : ∃ b, allN2 ((q1, q2) :: L) = b := ⟨_, rfl⟩
      have HAN := Lib.hid han
      have HSM := Lib.hid (sameU_self ⟨m, e, s⟩)
      clear hno hno2 ho hal han
      have KA := Lib.hid ka; have KB := Lib.hid kb; have KC := Lib.hid kc; have KM := Lib.hid km; have KN := Lib.hid kn; have HZL := Lib.hid hZl
      clear ka kb kc km kn hZl
      go_upto_region 3 with (go_at_call 13; refine (KA.out _ SS.out SL.out).mono ?_; rintro e w1 ⟨v1, rfl, hrow, hb1⟩; obtain ⟨pA, cA, rfl, hd⟩ := dfsO hrow; rw [HNS.out] at hd ⊢; have SA := Lib.hid hd; replace s0 := cell_keep s0 hb1; replace s1 := cell_keep s1 hb1; replace s2 := cell_keep s2 hb1; replace qx0 := cell_keep qx0 hb1; replace qx1 := cell_keep qx1 hb1; replace SS := Lib.hid (SS.out.below hb1); replace SL := Lib.hid (SL.out.below hb1); replace BB := Lib.hid (below_step BB.out hb1); clear hrow hd hb1 KA)
      obtain ⟨WA, gA, hW2, hg2, hr2, hb1⟩ := boxU w1 (.int .i64 m) (.int .i64 e) (.slice pA ns cA) 24
      rw [hW2, hg2]
      replace s0 := cell_keep s0 hb1; replace s1 := cell_keep s1 hb1; replace s2 := cell_keep s2 hb1; replace qx0 := cell_keep qx0 hb1; replace qx1 := cell_keep qx1 hb1; replace SS := Lib.hid (SS.out.below hb1); replace SL := Lib.hid (SL.out.below hb1); replace SA := Lib.hid (SA.out.below hb1); replace BB := Lib.hid (below_step BB.out hb1)
      obtain ⟨a0, a1, a2, -⟩ := row3 hr2
      clear hW2 hg2 hr2 hb1
      go_upto_region 4 with (go_at_call 14; refine (KB.out _ SS.out SL.out).mono ?_; rintro e w1 ⟨v1, rfl, hrow, hb1⟩; obtain ⟨pB, cB, rfl, hd⟩ := dfsO hrow; rw [HNS.out] at hd ⊢; have SB := Lib.hid hd; replace s0 := cell_keep s0 hb1; replace s1 := cell_keep s1 hb1; replace s2 := cell_keep s2 hb1; replace qx0 := cell_keep qx0 hb1; replace qx1 := cell_keep qx1 hb1; replace a0 := cell_keep a0 hb1; replace a1 := cell_keep a1 hb1; replace a2 := cell_keep a2 hb1; replace SS := Lib.hid (SS.out.below hb1); replace SL := Lib.hid (SL.out.below hb1); replace SA := Lib.hid (SA.out.below hb1); replace BB := Lib.hid (below_step BB.out hb1); clear hrow hd hb1 KB)
      obtain ⟨WB, gB, hW2, hg2, hr2, hb1⟩ := boxU w1 (.int .i64 m) (.int .i64 e) (.slice pB ns cB) 24
      rw [hW2, hg2]
      replace s0 := cell_keep s0 hb1; replace s1 := cell_keep s1 hb1; replace s2 := cell_keep s2 hb1; replace qx0 := cell_keep qx0 hb1; replace qx1 := cell_keep qx1 hb1; replace a0 := cell_keep a0 hb1; replace a1 := cell_keep a1 hb1; replace a2 := cell_keep a2 hb1; replace SS := Lib.hid (SS.out.below hb1); replace SL := Lib.hid (SL.out.below hb1); replace SA := Lib.hid (SA.out.below hb1); replace SB := Lib.hid (SB.out.below hb1); replace BB := Lib.hid (below_step BB.out hb1)
      obtain ⟨b0, b1, b2, -⟩ := row3 hr2
      clear hW2 hg2 hr2 hb1
      have x1 : ∀ args w, (callFunc 15 args).run Tryz.prog w = .ok (.enter 15 args) w := enters_of Tryz.func15 (by kernel_rfl) rfl
      have x2 : ∀ args w, (callFunc 16 args).run Tryz.prog w = .ok (.enter 16 args) w := enters_of Tryz.func16 (by kernel_rfl) rfl
      have x3 : ∀ args w, (callFunc 17 args).run Tryz.prog w = .ok (.enter 17 args) w := enters_of Tryz.func17 (by kernel_rfl) rfl
      have x4 : ∀ args w, (callFunc 18 args).run Tryz.prog w = .ok (.enter 18 args) w := enters_of Tryz.func18 (by kernel_rfl) rfl
      go_upto_region 4 with fail
      refine rol_run (by kernel_rfl) [[], [0], [0, 1], [], [0, 1, 3], [0, 1, 2, 3, 4], [0, 1, 2, 3, 4, 5], [0, 1, 2, 3, 4, 5, 6], [0, 1, 2, 3, 4, 5, 6], [0, 1, 2, 3, 4, 5, 6, 7, 8], [0, 1, 2, 3, 4, 5, 6], [0, 1, 2, 3, 4, 5, 6], [0, 1, 2, 3, 4, 5, 6, 7, 8, 9, 10, 11], [0, 1, 2, 3, 4, 5, 6, 7, 8, 9, 10, 11, 12], [0, 1, 2, 3, 4, 5, 6, 7, 8, 9, 10, 11, 12, 13]] (by kernel_rfl) [36, 37, 38, 39, 40, 41, 42, 43, 44, 45, 46, 47, 48, 49, 50] [[], [0], [1], [], [3], [2, 4], [5], [6], [6], [6, 7, 8], [6], [6], [6, 10, 11], [6, 9, 12], [6, 13]] [0, 0, 0, 0, 0, 0, 0, 0, 0, 0, 0, 0, 0, 0, 0] [0, 0, 0, 0, 0, 0, 0, 0, 0, 0, 0, 0, 0, 0, 0] [1000, 1000, 1000, 1000, 1000, 1000, 1000, 1000, 1000, 1000, 1000, 1000, 1000, 1000, 1000] [.val 36 (.agg #[.int .i64 m, .int .i64 e, .slice aS ns cS]), .val 37 (.int .i64 1), .val 38 (.bool false), .val 39 (.agg #[.int .i64 m, .int .i64 e, .slice aS ns cS]), .val 40 (.bool false), .val 41 (.bool false), .val 42 (.bool false), .val 43 (.agg #[.int .i64 m, .int .i64 e, .slice pA ns cA]), .val 44 (.agg #[.int .i64 m, .int .i64 e, .slice aS ns cS]), .val 45 (.bool true), .val 46 (.agg #[.int .i64 m, .int .i64 e, .slice pA ns cA]), .val 47 (.agg #[.int .i64 m, .int .i64 e, .slice aS ns cS]), .val 48 (.bool true), .val 49 (.bool false), .val 50 (.bool false)] (by kernel_rfl) ?_ (WB.heap.size) (WB.heap.size) rfl (Below.refl _ _) rfl (fun _ => 0) ?_ ?_ ?_
      · intro j hj
        have hj3 : j < 15 := hj
        have hj2 : j = 0 ∨ j = 1 ∨ j = 2 ∨ j = 3 ∨ j = 4 ∨ j = 5 ∨ j = 6 ∨ j = 7 ∨ j = 8 ∨ j = 9 ∨ j = 10 ∨ j = 11 ∨ j = 12 ∨ j = 13 ∨ j = 14 := by omega
        clear hj hj3
        rcases hj2 with rfl | rfl | rfl | rfl | rfl | rfl | rfl | rfl | rfl | rfl | rfl | rfl | rfl | rfl | rfl
        · exact trivial
        · exact trivial
        · exact trivial
        · exact trivial
        · exact trivial
        · exact trivial
        · exact trivial
        · exact trivial
        · exact trivial
        · exact trivial
        · exact trivial
        · exact trivial
        · exact trivial
        · exact trivial
        · exact trivial
      · intro j hj0 hj
        exact absurd hj (Nat.not_lt.2 hj0)
      · intro i hi a wx who hG hF
        have hz : a.tmps.size = 151 := hG.size
        have hi3 : i < 15 := hi
        have hi2 : i = 0 ∨ i = 1 ∨ i = 2 ∨ i = 3 ∨ i = 4 ∨ i = 5 ∨ i = 6 ∨ i = 7 ∨ i = 8 ∨ i = 9 ∨ i = 10 ∨ i = 11 ∨ i = 12 ∨ i = 13 ∨ i = 14 := by omega
        clear hi hi3
        rcases hi2 with rfl | rfl | rfl | rfl | rfl | rfl | rfl | rfl | rfl | rfl | rfl | rfl | rfl | rfl | rfl
        · exact rol_val rfl rfl rfl (by rw [hz]; decide) (ex_load rfl (eval_slot ((hG.slots 3 (by decide)).trans rfl)) (ld_useC (cell_keep s0 hG.below) (cell_keep s1 hG.below) (cell_keep s2 hG.below))) hG.below
        · refine rol_call rfl rfl rfl (by rw [hz]; decide) (ex_call rfl (by simp [eval_slot (hF 0 (by decide))]) x1) (KC.out wx (SS.out.below hG.below)) ?_ hG.below hG.new
          rintro e w1 ⟨rfl, hb1⟩
          exact ⟨_, rfl, hb1, .inl rfl⟩
        · exact rol_val rfl rfl rfl (by rw [hz]; decide) (ex_bin rfl (eval_slot (hF 1 (by decide))) rfl (by go_simp) (by go_simp)) hG.below
        · exact rol_val rfl rfl rfl (by rw [hz]; decide) (ex_load rfl (eval_slot ((hG.slots 3 (by decide)).trans rfl)) (ld_useC (cell_keep s0 hG.below) (cell_keep s1 hG.below) (cell_keep s2 hG.below))) hG.below
        · refine rol_call rfl rfl rfl (by rw [hz]; decide) (ex_call rfl (by simp [eval_slot (hF 3 (by decide))]) x2) (KM.out wx (SS.out.below hG.below)) ?_ hG.below hG.new
          rintro e w1 ⟨rfl, hb1⟩
          exact ⟨_, rfl, hb1, .inl rfl⟩
        · exact rol_val rfl rfl rfl (by rw [hz]; decide) (ex_bin rfl (eval_slot (hF 2 (by decide))) (eval_slot (hF 4 (by decide))) (by go_simp) neq_selfB) hG.below
        · exact rol_val rfl rfl rfl (by rw [hz]; decide) (ex_move (Or.inl rfl) (eval_slot (hF 5 (by decide)))) hG.below
        · exact rol_val rfl (want_yes rfl rfl (hF 6 (by decide))) rfl (by rw [hz]; decide) (ex_load rfl (eval_slot ((hG.slots 7 (by decide)).trans rfl)) (ld_useC (cell_keep a0 hG.below) (cell_keep a1 hG.below) (cell_keep a2 hG.below))) hG.below
        · exact rol_val rfl (want_yes rfl rfl (hF 6 (by decide))) rfl (by rw [hz]; decide) (ex_load rfl (eval_slot ((hG.slots 3 (by decide)).trans rfl)) (ld_useC (cell_keep s0 hG.below) (cell_keep s1 hG.below) (cell_keep s2 hG.below))) hG.below
        · refine rol_call rfl (want_yes rfl rfl (hF 6 (by decide))) rfl (by rw [hz]; decide) (ex_call rfl (by simp [eval_slot (hF 7 (by decide)), eval_slot (hF 8 (by decide))]) x3) (usame_any m e m e pA aS ns cA ns cS _ s wx (SA.out.below hG.below) (SS.out.below hG.below)) ?_ hG.below hG.new
          rintro e w1 ⟨rfl, hb1⟩
          rw [HSM.out]
          exact ⟨_, rfl, hb1, .inl rfl⟩
        · exact rol_val rfl (want_yes rfl rfl (hF 6 (by decide))) rfl (by rw [hz]; decide) (ex_load rfl (eval_slot ((hG.slots 7 (by decide)).trans rfl)) (ld_useC (cell_keep a0 hG.below) (cell_keep a1 hG.below) (cell_keep a2 hG.below))) hG.below
        · exact rol_val rfl (want_yes rfl rfl (hF 6 (by decide))) rfl (by rw [hz]; decide) (ex_load rfl (eval_slot ((hG.slots 3 (by decide)).trans rfl)) (ld_useC (cell_keep s0 hG.below) (cell_keep s1 hG.below) (cell_keep s2 hG.below))) hG.below
        · refine rol_call rfl (want_yes rfl rfl (hF 6 (by decide))) rfl (by rw [hz]; decide) (ex_call rfl (by simp [eval_slot (hF 10 (by decide)), eval_slot (hF 11 (by decide))]) x4) (refusame_any m e m e pA aS ns cA ns cS _ s wx (SA.out.below hG.below) (SS.out.below hG.below)) ?_ hG.below hG.new
          rintro e w1 ⟨rfl, hb1⟩
          rw [HSM.out]
          exact ⟨_, rfl, hb1, .inl rfl⟩
        · exact rol_val rfl (want_yes rfl rfl (hF 6 (by decide))) rfl (by rw [hz]; decide) (ex_bin rfl (eval_slot (hF 9 (by decide))) (eval_slot (hF 12 (by decide))) (by go_simp) neq_selfB) hG.below
        · exact rol_val rfl rfl rfl (by rw [hz]; decide) (ex_pick_no rfl (eval_slot (hF 6 (by decide))) (eval_slot (hF 13 (by decide)))) hG.below
      · intro a wx who hG hF
        have fv50 : a.tmps.getD 50 undef = .bool false := eval_slot (s := 50) (hF 14 (of_decide_eq_true (by kernel_rfl)) (of_decide_eq_true (by kernel_rfl)))
        have hbx := hG.below
        have hnx := hG.new
        rw [hG.frame]
        simp only [List.foldl_cons, List.foldl_nil, List.setIfInBounds_toArray, List.set_cons_zero, List.set_cons_succ]
        generalize a.tmps.getD 36 undef = u36
        generalize a.tmps.getD 37 undef = u37
        generalize a.tmps.getD 38 undef = u38
        generalize a.tmps.getD 39 undef = u39
        generalize a.tmps.getD 40 undef = u40
        generalize a.tmps.getD 41 undef = u41
        generalize a.tmps.getD 42 undef = u42
        generalize a.tmps.getD 43 undef = u43
        generalize a.tmps.getD 44 undef = u44
        generalize a.tmps.getD 45 undef = u45
        generalize a.tmps.getD 46 undef = u46
        generalize a.tmps.getD 47 undef = u47
        generalize a.tmps.getD 48 undef = u48
        generalize a.tmps.getD 49 undef = u49
        rw [fv50]
        clear hF hG fv50
        replace s0 := cell_keep s0 hbx; replace s1 := cell_keep s1 hbx; replace s2 := cell_keep s2 hbx; replace qx0 := cell_keep qx0 hbx; replace qx1 := cell_keep qx1 hbx; replace a0 := cell_keep a0 hbx; replace a1 := cell_keep a1 hbx; replace a2 := cell_keep a2 hbx; replace b0 := cell_keep b0 hbx; replace b1 := cell_keep b1 hbx; replace b2 := cell_keep b2 hbx; replace SS := Lib.hid (SS.out.below hbx); replace SL := Lib.hid (SL.out.below hbx); replace SA := Lib.hid (SA.out.below hbx); replace SB := Lib.hid (SB.out.below hbx); replace BB := Lib.hid (below_step BB.out hbx)
        clear hbx hnx x1 x2 x3 x4
        obtain ⟨wr, hwr⟩ : ∃ r, r = wx := ⟨_, rfl⟩
        subst hwr
        go_upto_region 6 with fail
        refine rol_run (by kernel_rfl) [[], [], [0, 1], [], [3], [0, 1, 2, 3, 4], [0, 1, 2, 3, 4, 5]] (by kernel_rfl) [51, 52, 53, 54, 55, 56, 11] [[], [], [0, 1], [], [3], [2, 4], [5]] [1, 0, 1, 0, 3, 1, 1] [0, 0, 1, 0, 0, 1, 0] [2, 1000, 5, 1000, 1000, 1000, 1000] [.mem 51 (rowG wr.heap.size 26 2 0 (ndsC [])), .val 52 (.slice aL nL cL2), .mem 53 (rowG wr.heap.size 26 2 L.length (ndsC L)), .val 54 (.agg #[.string (mkB q1), .string (mkB q2)]), .mem 55 (blkG 26 #[.string (mkB q1), .string (mkB q2)] 1), .mem 56 (rowG wr.heap.size 26 2 ZZ.length (ndsC ZZ)), .mem 11 (rowG wr.heap.size 26 2 ZZ.length (ndsC ZZ))] (by kernel_rfl) ?_ (wr.heap.size) (wr.heap.size) rfl (Below.refl _ _) rfl (fun _ => 0) ?_ ?_ ?_
        · intro j hj
          have hj3 : j < 7 := hj
          have hj2 : j = 0 ∨ j = 1 ∨ j = 2 ∨ j = 3 ∨ j = 4 ∨ j = 5 ∨ j = 6 := by omega
          clear hj hj3
          rcases hj2 with rfl | rfl | rfl | rfl | rfl | rfl | rfl
          · exact rowG_near
          · exact trivial
          · exact rowG_near
          · exact trivial
          · exact blkG_near
          · exact rowG_near
          · exact rowG_near
        · intro j hj0 hj
          exact absurd hj (Nat.not_lt.2 hj0)
        · intro i hi a wx who hG hF
          have hz : a.tmps.size = 151 := hG.size
          have hi3 : i < 7 := hi
          have hi2 : i = 0 ∨ i = 1 ∨ i = 2 ∨ i = 3 ∨ i = 4 ∨ i = 5 ∨ i = 6 := by omega
          clear hi hi3
          rcases hi2 with rfl | rfl | rfl | rfl | rfl | rfl | rfl
          · exact rol_newO rfl rfl rfl (by rw [hz]; decide) (x := .cells #[] 26) (v := .slice (some ⟨wx.heap.size, 0, none⟩) 0 0) (ex_slice rfl (vs := #[]) (by simp) (by go_simp)) ⟨row_base (nds_row0 wx) hG.new, rfl⟩ hG.below hG.new
          · exact rol_val rfl rfl rfl (by rw [hz]; decide) (ex_move (Or.inl rfl) (eval_slot ((hG.slots 2 (by decide)).trans rfl))) hG.below
          · exact rol_app_ndG rfl rfl rfl (by rw [hz]; decide) rfl (hF 0 (by decide)) (eval_slot (hF 1 (by decide))) (SL.out.below hG.below) (by omega) hG.below (Nat.le_refl _) hG.new (by rw [HNL.out, Nat.zero_add]) (List.nil_append _).symm
          · exact rol_val rfl rfl rfl (by rw [hz]; decide) (ex_load rfl (eval_slot ((hG.slots 4 (by decide)).trans rfl)) (ld_node (cell_keep qx0 hG.below) (cell_keep qx1 hG.below))) hG.below
          · exact rol_newO rfl rfl rfl (by rw [hz]; decide) (x := .cells #[.string (mkB q1), .string (mkB q2)] 26) (v := .slice (some ⟨wx.heap.size, 0, none⟩) 1 1) (ex_slice rfl (vs := #[(0, .agg #[.string (mkB q1), .string (mkB q2)])]) (by simp only [List.map_toArray, List.map_cons, List.map_nil, eval_slot (hF 3 (by decide))]) (by go_simp)) ⟨_, rfl, rfl, heap_alloc_new _ _⟩ hG.below hG.new
          · obtain ⟨v, ob, hv, hob, b, rfl, rfl, hh⟩ := hF 4 (by decide)
            exact rol_app_ndG rfl rfl rfl (by rw [hz]; decide) rfl (hF 2 (by decide)) (eval_slot hv) (blk_nd hh) (by have := HNL.out; omega) hG.below (Nat.le_refl _) hG.new (by rw [HZZ.out, List.length_append]; rfl) HZZ.out
          · exact rol_move rfl rfl rfl (by rw [hz]; decide) (Or.inr rfl) (hF 5 (by decide)) hG.below
        · intro a wx who hG hF
          obtain ⟨v11, ob11, fv11, fo11, fp11⟩ := hF 6 (of_decide_eq_true (by kernel_rfl)) (of_decide_eq_true (by kernel_rfl))
          replace fv11 : a.tmps.getD 11 undef = v11 := eval_slot (s := 11) fv11
          have hbx := hG.below
          have hnx := hG.new
          rw [hG.frame]
          simp only [List.foldl_cons, List.foldl_nil, List.setIfInBounds_toArray, List.set_cons_zero, List.set_cons_succ]
          generalize a.tmps.getD 51 undef = u51
          generalize a.tmps.getD 52 undef = u52
          generalize a.tmps.getD 53 undef = u53
          generalize a.tmps.getD 54 undef = u54
          generalize a.tmps.getD 55 undef = u55
          generalize a.tmps.getD 56 undef = u56
          rw [fv11]
          clear hF hG fv11
          obtain ⟨hrow, -⟩ := fp11
          obtain ⟨aZ, cZ, rfl, hdz⟩ := ndsO hrow
          rw [HZZL.out] at hdz ⊢
          have SZ := Lib.hid hdz
          replace s0 := cell_keep s0 hbx; replace s1 := cell_keep s1 hbx; replace s2 := cell_keep s2 hbx; replace qx0 := cell_keep qx0 hbx; replace qx1 := cell_keep qx1 hbx; replace a0 := cell_keep a0 hbx; replace a1 := cell_keep a1 hbx; replace a2 := cell_keep a2 hbx; replace b0 := cell_keep b0 hbx; replace b1 := cell_keep b1 hbx; replace b2 := cell_keep b2 hbx; replace SS := Lib.hid (SS.out.below hbx); replace SL := Lib.hid (SL.out.below hbx); replace SA := Lib.hid (SA.out.below hbx); replace SB := Lib.hid (SB.out.below hbx); replace BB := Lib.hid (below_step BB.out hbx)
          clear fo11 hrow hdz hbx hnx
          go_wp2_with (first
              | (go_at_call 16; refine (KM.out _ SS.out).mono ?_; rintro e w9 ⟨rfl, hb1⟩; replace s0 := cell_keep s0 hb1; replace s1 := cell_keep s1 hb1; replace s2 := cell_keep s2 hb1; replace qx0 := cell_keep qx0 hb1; replace qx1 := cell_keep qx1 hb1; replace a0 := cell_keep a0 hb1; replace a1 := cell_keep a1 hb1; replace a2 := cell_keep a2 hb1; replace b0 := cell_keep b0 hb1; replace b1 := cell_keep b1 hb1; replace b2 := cell_keep b2 hb1; replace SS := Lib.hid (SS.out.below hb1); replace SL := Lib.hid (SL.out.below hb1); replace SA := Lib.hid (SA.out.below hb1); replace SB := Lib.hid (SB.out.below hb1); replace SZ := Lib.hid (SZ.out.below hb1); replace BB := Lib.hid (below_step BB.out hb1); clear hb1 )
              | (go_at_call 19; refine (KN.out _ _ SZ.out).mono ?_; rintro e w9 ⟨rfl, hb1⟩; rw [HAN.out]; replace s0 := cell_keep s0 hb1; replace s1 := cell_keep s1 hb1; replace s2 := cell_keep s2 hb1; replace qx0 := cell_keep qx0 hb1; replace qx1 := cell_keep qx1 hb1; replace a0 := cell_keep a0 hb1; replace a1 := cell_keep a1 hb1; replace a2 := cell_keep a2 hb1; replace b0 := cell_keep b0 hb1; replace b1 := cell_keep b1 hb1; replace b2 := cell_keep b2 hb1; replace SS := Lib.hid (SS.out.below hb1); replace SL := Lib.hid (SL.out.below hb1); replace SA := Lib.hid (SA.out.below hb1); replace SB := Lib.hid (SB.out.below hb1); replace SZ := Lib.hid (SZ.out.below hb1); replace BB := Lib.hid (below_step BB.out hb1); clear hb1 )
              | (go_at_call 18; refine (refusame_any _ _ _ _ _ _ _ _ _ _ _ _ _ (by first | exact SA.out | exact SB.out) (by first | exact SS.out)).mono ?_; rintro e w9 ⟨rfl, hb1⟩; rw [sameU_self]; replace s0 := cell_keep s0 hb1; replace s1 := cell_keep s1 hb1; replace s2 := cell_keep s2 hb1; replace qx0 := cell_keep qx0 hb1; replace qx1 := cell_keep qx1 hb1; replace a0 := cell_keep a0 hb1; replace a1 := cell_keep a1 hb1; replace a2 := cell_keep a2 hb1; replace b0 := cell_keep b0 hb1; replace b1 := cell_keep b1 hb1; replace b2 := cell_keep b2 hb1; replace SS := Lib.hid (SS.out.below hb1); replace SL := Lib.hid (SL.out.below hb1); replace SA := Lib.hid (SA.out.below hb1); replace SB := Lib.hid (SB.out.below hb1); replace SZ := Lib.hid (SZ.out.below hb1); replace BB := Lib.hid (below_step BB.out hb1); clear hb1 )
              | (go_at_call 20; refine (rawake_any _).mono ?_; rintro e w9 ⟨rfl, hb1⟩; replace s0 := cell_keep s0 hb1; replace s1 := cell_keep s1 hb1; replace s2 := cell_keep s2 hb1; replace qx0 := cell_keep qx0 hb1; replace qx1 := cell_keep qx1 hb1; replace a0 := cell_keep a0 hb1; replace a1 := cell_keep a1 hb1; replace a2 := cell_keep a2 hb1; replace b0 := cell_keep b0 hb1; replace b1 := cell_keep b1 hb1; replace b2 := cell_keep b2 hb1; replace SS := Lib.hid (SS.out.below hb1); replace SL := Lib.hid (SL.out.below hb1); replace SA := Lib.hid (SA.out.below hb1); replace SB := Lib.hid (SB.out.below hb1); replace SZ := Lib.hid (SZ.out.below hb1); replace BB := Lib.hid (below_step BB.out hb1); clear hb1))
          go_ret
          exact ⟨rfl, BB.out⟩
    · obtain ⟨ZZ, hZZ⟩ : ∃ Z, Z = L ++ [(q1, q2)] := ⟨_, rfl⟩
      rw [← hZZ] at kn sZ hZl
      have HZZ := Lib.hid hZZ; have HZZL := Lib.hid hZl
      cases hp : allN2 ((q1, q2) :: L)
      · have hno : (Us.ok ⟨m, e, s⟩ && (allN2 [] && allN2 ((q1, q2) :: L))) = false := by rw [hp]; simp
        have hno2 : (Us.ok ⟨m, e, s⟩ && (allN2 ((q1, q2) :: L) && allN2 [])) = false := by rw [hp]; simp
        rw [chgE_no hno] at ka
        rw [chgE_no hno2] at kb
        rw [chkU_yes ho] at kc
        rw [ho] at km
        simp only at ka kb
        have HAN := Lib.hid hp
        have HSM := Lib.hid (sameU_self ⟨m, e, s⟩)
        clear hno hno2 ho hal hp
        have KA := Lib.hid ka; have KB := Lib.hid kb; have KC := Lib.hid kc; have KM := Lib.hid km; have KN := Lib.hid kn; have HZL := Lib.hid hZl
        clear ka kb kc km kn hZl
        go_upto_region 3 with (go_at_call 13; refine (KA.out _ SS.out SL.out).mono ?_; rintro e w1 ⟨v1, rfl, hrow, hb1⟩; obtain ⟨pA, cA, rfl, hd⟩ := dfsO hrow; rw [HNS.out] at hd ⊢; have SA := Lib.hid hd; replace s0 := cell_keep s0 hb1; replace s1 := cell_keep s1 hb1; replace s2 := cell_keep s2 hb1; replace qx0 := cell_keep qx0 hb1; replace qx1 := cell_keep qx1 hb1; replace SS := Lib.hid (SS.out.below hb1); replace SL := Lib.hid (SL.out.below hb1); replace BB := Lib.hid (below_step BB.out hb1); clear hrow hd hb1 KA)
        obtain ⟨WA, gA, hW2, hg2, hr2, hb1⟩ := boxU w1 (.int .i64 m) (.int .i64 e) (.slice pA ns cA) 24
        rw [hW2, hg2]
        replace s0 := cell_keep s0 hb1; replace s1 := cell_keep s1 hb1; replace s2 := cell_keep s2 hb1; replace qx0 := cell_keep qx0 hb1; replace qx1 := cell_keep qx1 hb1; replace SS := Lib.hid (SS.out.below hb1); replace SL := Lib.hid (SL.out.below hb1); replace SA := Lib.hid (SA.out.below hb1); replace BB := Lib.hid (below_step BB.out hb1)
        obtain ⟨a0, a1, a2, -⟩ := row3 hr2
        clear hW2 hg2 hr2 hb1
        go_upto_region 4 with (go_at_call 14; refine (KB.out _ SS.out SL.out).mono ?_; rintro e w1 ⟨v1, rfl, hrow, hb1⟩; obtain ⟨pB, cB, rfl, hd⟩ := dfsO hrow; rw [HNS.out] at hd ⊢; have SB := Lib.hid hd; replace s0 := cell_keep s0 hb1; replace s1 := cell_keep s1 hb1; replace s2 := cell_keep s2 hb1; replace qx0 := cell_keep qx0 hb1; replace qx1 := cell_keep qx1 hb1; replace a0 := cell_keep a0 hb1; replace a1 := cell_keep a1 hb1; replace a2 := cell_keep a2 hb1; replace SS := Lib.hid (SS.out.below hb1); replace SL := Lib.hid (SL.out.below hb1); replace SA := Lib.hid (SA.out.below hb1); replace BB := Lib.hid (below_step BB.out hb1); clear hrow hd hb1 KB)
        obtain ⟨WB, gB, hW2, hg2, hr2, hb1⟩ := boxU w1 (.int .i64 m) (.int .i64 e) (.slice pB ns cB) 24
        rw [hW2, hg2]
        replace s0 := cell_keep s0 hb1; replace s1 := cell_keep s1 hb1; replace s2 := cell_keep s2 hb1; replace qx0 := cell_keep qx0 hb1; replace qx1 := cell_keep qx1 hb1; replace a0 := cell_keep a0 hb1; replace a1 := cell_keep a1 hb1; replace a2 := cell_keep a2 hb1; replace SS := Lib.hid (SS.out.below hb1); replace SL := Lib.hid (SL.out.below hb1); replace SA := Lib.hid (SA.out.below hb1); replace SB := Lib.hid (SB.out.below hb1); replace BB := Lib.hid (below_step BB.out hb1)
        obtain ⟨b0, b1, b2, -⟩ := row3 hr2
        clear hW2 hg2 hr2 hb1
        have x1 : ∀ args w, (callFunc 15 args).run Tryz.prog w = .ok (.enter 15 args) w := enters_of Tryz.func15 (by kernel_rfl) rfl
        have x2 : ∀ args w, (callFunc 16 args).run Tryz.prog w = .ok (.enter 16 args) w := enters_of Tryz.func16 (by kernel_rfl) rfl
        have x3 : ∀ args w, (callFunc 17 args).run Tryz.prog w = .ok (.enter 17 args) w := enters_of Tryz.func17 (by kernel_rfl) rfl
        have x4 : ∀ args w, (callFunc 18 args).run Tryz.prog w = .ok (.enter 18 args) w := enters_of Tryz.func18 (by kernel_rfl) rfl
        go_upto_region 4 with fail
        refine rol_run (by kernel_rfl) [[], [0], [0, 1], [], [0, 1, 3], [0, 1, 2, 3, 4], [0, 1, 2, 3, 4, 5], [0, 1, 2, 3, 4, 5, 6], [0, 1, 2, 3, 4, 5, 6], [0, 1, 2, 3, 4, 5, 6, 7, 8], [0, 1, 2, 3, 4, 5, 6], [0, 1, 2, 3, 4, 5, 6], [0, 1, 2, 3, 4, 5, 6, 7, 8, 9, 10, 11], [0, 1, 2, 3, 4, 5, 6, 7, 8, 9, 10, 11, 12], [0, 1, 2, 3, 4, 5, 6, 7, 8, 9, 10, 11, 12, 13]] (by kernel_rfl) [36, 37, 38, 39, 40, 41, 42, 43, 44, 45, 46, 47, 48, 49, 50] [[], [0], [1], [], [3], [2, 4], [5], [6], [6], [6, 7, 8], [6], [6], [6, 10, 11], [6, 9, 12], [6, 13]] [0, 0, 0, 0, 0, 0, 0, 0, 0, 0, 0, 0, 0, 0, 0] [0, 0, 0, 0, 0, 0, 0, 0, 0, 0, 0, 0, 0, 0, 0] [1000, 1000, 1000, 1000, 1000, 1000, 1000, 1000, 1000, 1000, 1000, 1000, 1000, 1000, 1000] [.val 36 (.agg #[.int .i64 m, .int .i64 e, .slice aS ns cS]), .val 37 (.int .i64 0), .val 38 (.bool true), .val 39 (.agg #[.int .i64 m, .int .i64 e, .slice aS ns cS]), .val 40 (.bool true), .val 41 (.bool false), .val 42 (.bool false), .val 43 (.agg #[.int .i64 m, .int .i64 e, .slice pA ns cA]), .val 44 (.agg #[.int .i64 m, .int .i64 e, .slice aS ns cS]), .val 45 (.bool true), .val 46 (.agg #[.int .i64 m, .int .i64 e, .slice pA ns cA]), .val 47 (.agg #[.int .i64 m, .int .i64 e, .slice aS ns cS]), .val 48 (.bool true), .val 49 (.bool false), .val 50 (.bool false)] (by kernel_rfl) ?_ (WB.heap.size) (WB.heap.size) rfl (Below.refl _ _) rfl (fun _ => 0) ?_ ?_ ?_
        · intro j hj
          have hj3 : j < 15 := hj
          have hj2 : j = 0 ∨ j = 1 ∨ j = 2 ∨ j = 3 ∨ j = 4 ∨ j = 5 ∨ j = 6 ∨ j = 7 ∨ j = 8 ∨ j = 9 ∨ j = 10 ∨ j = 11 ∨ j = 12 ∨ j = 13 ∨ j = 14 := by omega
          clear hj hj3
          rcases hj2 with rfl | rfl | rfl | rfl | rfl | rfl | rfl | rfl | rfl | rfl | rfl | rfl | rfl | rfl | rfl
          · exact trivial
          · exact trivial
          · exact trivial
          · exact trivial
          · exact trivial
          · exact trivial
          · exact trivial
          · exact trivial
          · exact trivial
          · exact trivial
          · exact trivial
          · exact trivial
          · exact trivial
          · exact trivial
          · exact trivial
        · intro j hj0 hj
          exact absurd hj (Nat.not_lt.2 hj0)
        · intro i hi a wx who hG hF
          have hz : a.tmps.size = 151 := hG.size
          have hi3 : i < 15 := hi
          have hi2 : i = 0 ∨ i = 1 ∨ i = 2 ∨ i = 3 ∨ i = 4 ∨ i = 5 ∨ i = 6 ∨ i = 7 ∨ i = 8 ∨ i = 9 ∨ i = 10 ∨ i = 11 ∨ i = 12 ∨ i = 13 ∨ i = 14 := by omega
          clear hi hi3
          rcases hi2 with rfl | rfl | rfl | rfl | rfl | rfl | rfl | rfl | rfl | rfl | rfl | rfl | rfl | rfl | rfl
          · exact rol_val rfl rfl rfl (by rw [hz]; decide) (ex_load rfl (eval_slot ((hG.slots 3 (by decide)).trans rfl)) (ld_useC (cell_keep s0 hG.below) (cell_keep s1 hG.below) (cell_keep s2 hG.below))) hG.below
          · refine rol_call rfl rfl rfl (by rw [hz]; decide) (ex_call rfl (by simp [eval_slot (hF 0 (by decide))]) x1) (KC.out wx (SS.out.below hG.below)) ?_ hG.below hG.new
            rintro e w1 ⟨rfl, hb1⟩
            exact ⟨_, rfl, hb1, .inl rfl⟩
          · exact rol_val rfl rfl rfl (by rw [hz]; decide) (ex_bin rfl (eval_slot (hF 1 (by decide))) rfl (by go_simp) (by go_simp)) hG.below
          · exact rol_val rfl rfl rfl (by rw [hz]; decide) (ex_load rfl (eval_slot ((hG.slots 3 (by decide)).trans rfl)) (ld_useC (cell_keep s0 hG.below) (cell_keep s1 hG.below) (cell_keep s2 hG.below))) hG.below
          · refine rol_call rfl rfl rfl (by rw [hz]; decide) (ex_call rfl (by simp [eval_slot (hF 3 (by decide))]) x2) (KM.out wx (SS.out.below hG.below)) ?_ hG.below hG.new
            rintro e w1 ⟨rfl, hb1⟩
            exact ⟨_, rfl, hb1, .inl rfl⟩
          · exact rol_val rfl rfl rfl (by rw [hz]; decide) (ex_bin rfl (eval_slot (hF 2 (by decide))) (eval_slot (hF 4 (by decide))) (by go_simp) neq_selfB) hG.below
          · exact rol_val rfl rfl rfl (by rw [hz]; decide) (ex_move (Or.inl rfl) (eval_slot (hF 5 (by decide)))) hG.below
          · exact rol_val rfl (want_yes rfl rfl (hF 6 (by decide))) rfl (by rw [hz]; decide) (ex_load rfl (eval_slot ((hG.slots 7 (by decide)).trans rfl)) (ld_useC (cell_keep a0 hG.below) (cell_keep a1 hG.below) (cell_keep a2 hG.below))) hG.below
          · exact rol_val rfl (want_yes rfl rfl (hF 6 (by decide))) rfl (by rw [hz]; decide) (ex_load rfl (eval_slot ((hG.slots 3 (by decide)).trans rfl)) (ld_useC (cell_keep s0 hG.below) (cell_keep s1 hG.below) (cell_keep s2 hG.below))) hG.below
          · refine rol_call rfl (want_yes rfl rfl (hF 6 (by decide))) rfl (by rw [hz]; decide) (ex_call rfl (by simp [eval_slot (hF 7 (by decide)), eval_slot (hF 8 (by decide))]) x3) (usame_any m e m e pA aS ns cA ns cS _ s wx (SA.out.below hG.below) (SS.out.below hG.below)) ?_ hG.below hG.new
            rintro e w1 ⟨rfl, hb1⟩
            rw [HSM.out]
            exact ⟨_, rfl, hb1, .inl rfl⟩
          · exact rol_val rfl (want_yes rfl rfl (hF 6 (by decide))) rfl (by rw [hz]; decide) (ex_load rfl (eval_slot ((hG.slots 7 (by decide)).trans rfl)) (ld_useC (cell_keep a0 hG.below) (cell_keep a1 hG.below) (cell_keep a2 hG.below))) hG.below
          · exact rol_val rfl (want_yes rfl rfl (hF 6 (by decide))) rfl (by rw [hz]; decide) (ex_load rfl (eval_slot ((hG.slots 3 (by decide)).trans rfl)) (ld_useC (cell_keep s0 hG.below) (cell_keep s1 hG.below) (cell_keep s2 hG.below))) hG.below
          · refine rol_call rfl (want_yes rfl rfl (hF 6 (by decide))) rfl (by rw [hz]; decide) (ex_call rfl (by simp [eval_slot (hF 10 (by decide)), eval_slot (hF 11 (by decide))]) x4) (refusame_any m e m e pA aS ns cA ns cS _ s wx (SA.out.below hG.below) (SS.out.below hG.below)) ?_ hG.below hG.new
            rintro e w1 ⟨rfl, hb1⟩
            rw [HSM.out]
            exact ⟨_, rfl, hb1, .inl rfl⟩
          · exact rol_val rfl (want_yes rfl rfl (hF 6 (by decide))) rfl (by rw [hz]; decide) (ex_bin rfl (eval_slot (hF 9 (by decide))) (eval_slot (hF 12 (by decide))) (by go_simp) neq_selfB) hG.below
          · exact rol_val rfl rfl rfl (by rw [hz]; decide) (ex_pick_no rfl (eval_slot (hF 6 (by decide))) (eval_slot (hF 13 (by decide)))) hG.below
        · intro a wx who hG hF
          have fv50 : a.tmps.getD 50 undef = .bool false := eval_slot (s := 50) (hF 14 (of_decide_eq_true (by kernel_rfl)) (of_decide_eq_true (by kernel_rfl)))
          have hbx := hG.below
          have hnx := hG.new
          rw [hG.frame]
          simp only [List.foldl_cons, List.foldl_nil, List.setIfInBounds_toArray, List.set_cons_zero, List.set_cons_succ]
          generalize a.tmps.getD 36 undef = u36
          generalize a.tmps.getD 37 undef = u37
          generalize a.tmps.getD 38 undef = u38
          generalize a.tmps.getD 39 undef = u39
          generalize a.tmps.getD 40 undef = u40
          generalize a.tmps.getD 41 undef = u41
          generalize a.tmps.getD 42 undef = u42
          generalize a.tmps.getD 43 undef = u43
          generalize a.tmps.getD 44 undef = u44
          generalize a.tmps.getD 45 undef = u45
          generalize a.tmps.getD 46 undef = u46
          generalize a.tmps.getD 47 undef = u47
          generalize a.tmps.getD 48 undef = u48
          generalize a.tmps.getD 49 undef = u49
          rw [fv50]
          clear hF hG fv50
          replace s0 := cell_keep s0 hbx; replace s1 := cell_keep s1 hbx; replace s2 := cell_keep s2 hbx; replace qx0 := cell_keep qx0 hbx; replace qx1 := cell_keep qx1 hbx; replace a0 := cell_keep a0 hbx; replace a1 := cell_keep a1 hbx; replace a2 := cell_keep a2 hbx; replace b0 := cell_keep b0 hbx; replace b1 := cell_keep b1 hbx; replace b2 := cell_keep b2 hbx; replace SS := Lib.hid (SS.out.below hbx); replace SL := Lib.hid (SL.out.below hbx); replace SA := Lib.hid (SA.out.below hbx); replace SB := Lib.hid (SB.out.below hbx); replace BB := Lib.hid (below_step BB.out hbx)
          clear hbx hnx x1 x2 x3 x4
          obtain ⟨wr, hwr⟩ : ∃ r, r = wx := ⟨_, rfl⟩
          subst hwr
          go_upto_region 6 with fail
          refine rol_run (by kernel_rfl) [[], [], [0, 1], [], [3], [0, 1, 2, 3, 4], [0, 1, 2, 3, 4, 5]] (by kernel_rfl) [51, 52, 53, 54, 55, 56, 11] [[], [], [0, 1], [], [3], [2, 4], [5]] [1, 0, 1, 0, 3, 1, 1] [0, 0, 1, 0, 0, 1, 0] [2, 1000, 5, 1000, 1000, 1000, 1000] [.mem 51 (rowG wr.heap.size 26 2 0 (ndsC [])), .val 52 (.slice aL nL cL2), .mem 53 (rowG wr.heap.size 26 2 L.length (ndsC L)), .val 54 (.agg #[.string (mkB q1), .string (mkB q2)]), .mem 55 (blkG 26 #[.string (mkB q1), .string (mkB q2)] 1), .mem 56 (rowG wr.heap.size 26 2 ZZ.length (ndsC ZZ)), .mem 11 (rowG wr.heap.size 26 2 ZZ.length (ndsC ZZ))] (by kernel_rfl) ?_ (wr.heap.size) (wr.heap.size) rfl (Below.refl _ _) rfl (fun _ => 0) ?_ ?_ ?_
          · intro j hj
            have hj3 : j < 7 := hj
            have hj2 : j = 0 ∨ j = 1 ∨ j = 2 ∨ j = 3 ∨ j = 4 ∨ j = 5 ∨ j = 6 := by omega
            clear hj hj3
            rcases hj2 with rfl | rfl | rfl | rfl | rfl | rfl | rfl
            · exact rowG_near
            · exact trivial
            · exact rowG_near
            · exact trivial
            · exact blkG_near
            · exact rowG_near
            · exact rowG_near
          · intro j hj0 hj
            exact absurd hj (Nat.not_lt.2 hj0)
          · intro i hi a wx who hG hF
            have hz : a.tmps.size = 151 := hG.size
            have hi3 : i < 7 := hi
            have hi2 : i = 0 ∨ i = 1 ∨ i = 2 ∨ i = 3 ∨ i = 4 ∨ i = 5 ∨ i = 6 := by omega
            clear hi hi3
            rcases hi2 with rfl | rfl | rfl | rfl | rfl | rfl | rfl
            · exact rol_newO rfl rfl rfl (by rw [hz]; decide) (x := .cells #[] 26) (v := .slice (some ⟨wx.heap.size, 0, none⟩) 0 0) (ex_slice rfl (vs := #[]) (by simp) (by go_simp)) ⟨row_base (nds_row0 wx) hG.new, rfl⟩ hG.below hG.new
            · exact rol_val rfl rfl rfl (by rw [hz]; decide) (ex_move (Or.inl rfl) (eval_slot ((hG.slots 2 (by decide)).trans rfl))) hG.below
            · exact rol_app_ndG rfl rfl rfl (by rw [hz]; decide) rfl (hF 0 (by decide)) (eval_slot (hF 1 (by decide))) (SL.out.below hG.below) (by omega) hG.below (Nat.le_refl _) hG.new (by rw [HNL.out, Nat.zero_add]) (List.nil_append _).symm
            · exact rol_val rfl rfl rfl (by rw [hz]; decide) (ex_load rfl (eval_slot ((hG.slots 4 (by decide)).trans rfl)) (ld_node (cell_keep qx0 hG.below) (cell_keep qx1 hG.below))) hG.below
            · exact rol_newO rfl rfl rfl (by rw [hz]; decide) (x := .cells #[.string (mkB q1), .string (mkB q2)] 26) (v := .slice (some ⟨wx.heap.size, 0, none⟩) 1 1) (ex_slice rfl (vs := #[(0, .agg #[.string (mkB q1), .string (mkB q2)])]) (by simp only [List.map_toArray, List.map_cons, List.map_nil, eval_slot (hF 3 (by decide))]) (by go_simp)) ⟨_, rfl, rfl, heap_alloc_new _ _⟩ hG.below hG.new
            · obtain ⟨v, ob, hv, hob, b, rfl, rfl, hh⟩ := hF 4 (by decide)
              exact rol_app_ndG rfl rfl rfl (by rw [hz]; decide) rfl (hF 2 (by decide)) (eval_slot hv) (blk_nd hh) (by have := HNL.out; omega) hG.below (Nat.le_refl _) hG.new (by rw [HZZ.out, List.length_append]; rfl) HZZ.out
            · exact rol_move rfl rfl rfl (by rw [hz]; decide) (Or.inr rfl) (hF 5 (by decide)) hG.below
          · intro a wx who hG hF
            obtain ⟨v11, ob11, fv11, fo11, fp11⟩ := hF 6 (of_decide_eq_true (by kernel_rfl)) (of_decide_eq_true (by kernel_rfl))
            replace fv11 : a.tmps.getD 11 undef = v11 := eval_slot (s := 11) fv11
            have hbx := hG.below
            have hnx := hG.new
            rw [hG.frame]
            simp only [List.foldl_cons, List.foldl_nil, List.setIfInBounds_toArray, List.set_cons_zero, List.set_cons_succ]
            generalize a.tmps.getD 51 undef = u51
            generalize a.tmps.getD 52 undef = u52
            generalize a.tmps.getD 53 undef = u53
            generalize a.tmps.getD 54 undef = u54
            generalize a.tmps.getD 55 undef = u55
            generalize a.tmps.getD 56 undef = u56
            rw [fv11]
            clear hF hG fv11
            obtain ⟨hrow, -⟩ := fp11
            obtain ⟨aZ, cZ, rfl, hdz⟩ := ndsO hrow
            rw [HZZL.out] at hdz ⊢
            have SZ := Lib.hid hdz
            replace s0 := cell_keep s0 hbx; replace s1 := cell_keep s1 hbx; replace s2 := cell_keep s2 hbx; replace qx0 := cell_keep qx0 hbx; replace qx1 := cell_keep qx1 hbx; replace a0 := cell_keep a0 hbx; replace a1 := cell_keep a1 hbx; replace a2 := cell_keep a2 hbx; replace b0 := cell_keep b0 hbx; replace b1 := cell_keep b1 hbx; replace b2 := cell_keep b2 hbx; replace SS := Lib.hid (SS.out.below hbx); replace SL := Lib.hid (SL.out.below hbx); replace SA := Lib.hid (SA.out.below hbx); replace SB := Lib.hid (SB.out.below hbx); replace BB := Lib.hid (below_step BB.out hbx)
            clear fo11 hrow hdz hbx hnx
            go_wp2_with (first
                | (go_at_call 16; refine (KM.out _ SS.out).mono ?_; rintro e w9 ⟨rfl, hb1⟩; replace s0 := cell_keep s0 hb1; replace s1 := cell_keep s1 hb1; replace s2 := cell_keep s2 hb1; replace qx0 := cell_keep qx0 hb1; replace qx1 := cell_keep qx1 hb1; replace a0 := cell_keep a0 hb1; replace a1 := cell_keep a1 hb1; replace a2 := cell_keep a2 hb1; replace b0 := cell_keep b0 hb1; replace b1 := cell_keep b1 hb1; replace b2 := cell_keep b2 hb1; replace SS := Lib.hid (SS.out.below hb1); replace SL := Lib.hid (SL.out.below hb1); replace SA := Lib.hid (SA.out.below hb1); replace SB := Lib.hid (SB.out.below hb1); replace SZ := Lib.hid (SZ.out.below hb1); replace BB := Lib.hid (below_step BB.out hb1); clear hb1 )
                | (go_at_call 19; refine (KN.out _ _ SZ.out).mono ?_; rintro e w9 ⟨rfl, hb1⟩; rw [HAN.out]; replace s0 := cell_keep s0 hb1; replace s1 := cell_keep s1 hb1; replace s2 := cell_keep s2 hb1; replace qx0 := cell_keep qx0 hb1; replace qx1 := cell_keep qx1 hb1; replace a0 := cell_keep a0 hb1; replace a1 := cell_keep a1 hb1; replace a2 := cell_keep a2 hb1; replace b0 := cell_keep b0 hb1; replace b1 := cell_keep b1 hb1; replace b2 := cell_keep b2 hb1; replace SS := Lib.hid (SS.out.below hb1); replace SL := Lib.hid (SL.out.below hb1); replace SA := Lib.hid (SA.out.below hb1); replace SB := Lib.hid (SB.out.below hb1); replace SZ := Lib.hid (SZ.out.below hb1); replace BB := Lib.hid (below_step BB.out hb1); clear hb1 )
                | (go_at_call 18; refine (refusame_any _ _ _ _ _ _ _ _ _ _ _ _ _ (by first | exact SA.out | exact SB.out) (by first | exact SS.out)).mono ?_; rintro e w9 ⟨rfl, hb1⟩; rw [sameU_self]; replace s0 := cell_keep s0 hb1; replace s1 := cell_keep s1 hb1; replace s2 := cell_keep s2 hb1; replace qx0 := cell_keep qx0 hb1; replace qx1 := cell_keep qx1 hb1; replace a0 := cell_keep a0 hb1; replace a1 := cell_keep a1 hb1; replace a2 := cell_keep a2 hb1; replace b0 := cell_keep b0 hb1; replace b1 := cell_keep b1 hb1; replace b2 := cell_keep b2 hb1; replace SS := Lib.hid (SS.out.below hb1); replace SL := Lib.hid (SL.out.below hb1); replace SA := Lib.hid (SA.out.below hb1); replace SB := Lib.hid (SB.out.below hb1); replace SZ := Lib.hid (SZ.out.below hb1); replace BB := Lib.hid (below_step BB.out hb1); clear hb1 )
                | (go_at_call 20; refine (rawake_any _).mono ?_; rintro e w9 ⟨rfl, hb1⟩; replace s0 := cell_keep s0 hb1; replace s1 := cell_keep s1 hb1; replace s2 := cell_keep s2 hb1; replace qx0 := cell_keep qx0 hb1; replace qx1 := cell_keep qx1 hb1; replace a0 := cell_keep a0 hb1; replace a1 := cell_keep a1 hb1; replace a2 := cell_keep a2 hb1; replace b0 := cell_keep b0 hb1; replace b1 := cell_keep b1 hb1; replace b2 := cell_keep b2 hb1; replace SS := Lib.hid (SS.out.below hb1); replace SL := Lib.hid (SL.out.below hb1); replace SA := Lib.hid (SA.out.below hb1); replace SB := Lib.hid (SB.out.below hb1); replace SZ := Lib.hid (SZ.out.below hb1); replace BB := Lib.hid (below_step BB.out hb1); clear hb1))
            go_ret
            exact ⟨rfl, BB.out⟩
      · have hsl2 : s.length ≤ 500 := by rw [HNS.out]; omega
        have oL : ∀ x ∈ (q1, q2) :: L, okN x = true := allN2_iff.1 hp
        have oZ : ∀ x ∈ ZZ, okN x = true := allN2_iff.1 (by rw [hZZ, hal]; exact hp)
        have kx := fun V w h h' => chmore_any m e 1 nL aS ns cS s V ZZ w h h' HSS.out sZ oZ ho hsl2 (by rw [hZl]; omega) (by omega) (by omega)
        have ky := fun V w h h' => chless_any m e (-1) nL aS ns cS s V ZZ w h h' HSS.out sZ oZ ho hsl2 (by rw [hZl]; omega) (by omega) (by omega)
        have hy1 : (Us.ok ⟨m, e, s⟩ && (allN2 [] && allN2 ((q1, q2) :: L))) = true := by rw [show Us.ok ⟨m, e, s⟩ = true from ho, hp]; rfl
        have hy2 : (Us.ok ⟨m, e, s⟩ && (allN2 ((q1, q2) :: L) && allN2 [])) = true := by rw [show Us.ok ⟨m, e, s⟩ = true from ho, hp]; rfl
        have hcn : ∀ n, cntN ((q1, q2) :: L) n = cntN ZZ n := fun n => by rw [hZZ, cntN_app, cntN_cons, cntN_cons, cntN_nil]; omega
        have d1 : difL [] ((q1, q2) :: L) = difL [] ZZ := difL_perm (by simpa using oL) (by simpa using oZ) fun n => by unfold difF; rw [hcn]
        have d2 : difL ((q1, q2) :: L) [] = difL ZZ [] := difL_perm (by simpa using oL) (by simpa using oZ) fun n => by unfold difF; rw [hcn]
        have t1 : toU ⟨m, e, s⟩ 1 [] ((q1, q2) :: L) = ⟨m + 1, e + 1 * nL, mergeD s (difL [] ZZ)⟩ := by
          have h9 : e + ((((q1, q2) :: L).length : Int) - ([] : List Nd).length - 1) = e + 1 * nL := by rw [List.length_cons, HNL.out]; simp
          unfold toU
          simp only
          rw [d1, h9]
        have t2 : toU ⟨m, e, s⟩ (-1) ((q1, q2) :: L) [] = ⟨m + -1, e + -1 * nL, mergeD s (difL ZZ [])⟩ := by
          have h9 : e + ((([] : List Nd).length : Int) - ((q1, q2) :: L).length - -1) = e + -1 * nL := by rw [List.length_cons, HNL.out, List.length_nil]; push_cast; omega
          unfold toU
          simp only
          rw [d2, h9]
        have a1 := chgE_yes (k := 1) hy1
        have a2 := chgE_far (k := 1) hy1
        have b1 := chgE_yes (k := -1) hy2
        have b2 := chgE_far (k := -1) hy2
        rw [t1] at a1 a2
        rw [t2] at b1 b2
        rw [if_pos rfl] at a2
        rw [if_neg (by simp)] at b2
        obtain ⟨X, hX⟩ : ∃ X, mergeD s (difL [] ZZ) = X := ⟨_, rfl⟩
        obtain ⟨Y, hY⟩ : ∃ X, mergeD s (difL ZZ []) = X := ⟨_, rfl⟩
        rw [hX] at kx a1 a2
        rw [hY] at ky b1 b2
        obtain ⟨mx, hmx⟩ : ∃ z, m + 1 = z := ⟨_, rfl⟩
        obtain ⟨my, hmy⟩ : ∃ z, m + -1 = z := ⟨_, rfl⟩
        obtain ⟨ex, hex⟩ : ∃ z, e + 1 * (nL : Int) = z := ⟨_, rfl⟩
        obtain ⟨ey, hey⟩ : ∃ z, e + -1 * (nL : Int) = z := ⟨_, rfl⟩
        rw [hex, hmx] at kx a1 a2
        rw [hey, hmy] at ky b1 b2
        rw [ho] at km
        rw [chkU_yes ho] at kc
        obtain ⟨nx, hnx⟩ : ∃ z, X.length = z := ⟨_, rfl⟩
        obtain ⟨ny, hny⟩ : ∃ z, Y.length = z := ⟨_, rfl⟩
        have HNX := Lib.hid hnx; have HNY := Lib.hid hny
        have HAN := Lib.hid hp; have KX := Lib.hid kx; have KY := Lib.hid ky
        clear hX hY hex hey hmx hmy hnx hny hy1 hy2 t1 t2 d1 d2 hcn oL oZ hsl2 kx ky hp ho hal hZZ
        cases hx : okU mx ex X
        · cases hy : okU my ey Y
          · rw [a2 hx] at ka
            rw [b2 hy] at kb
            simp only at ka kb
            rw [hx] at KX
            rw [hy] at KY
            clear a1 a2 b1 b2 hx hy
            have HSM := Lib.hid (sameU_self ⟨m, e, s⟩)
            have KA := Lib.hid ka; have KB := Lib.hid kb; have KC := Lib.hid kc; have KM := Lib.hid km; have KN := Lib.hid kn; have HZL := Lib.hid hZl
            clear ka kb kc km kn hZl
            go_upto_region 3 with (go_at_call 13; refine (KA.out _ SS.out SL.out).mono ?_; rintro e w1 ⟨v1, rfl, hrow, hb1⟩; obtain ⟨pA, cA, rfl, hd⟩ := dfsO hrow; rw [HNS.out] at hd ⊢; have SA := Lib.hid hd; replace s0 := cell_keep s0 hb1; replace s1 := cell_keep s1 hb1; replace s2 := cell_keep s2 hb1; replace qx0 := cell_keep qx0 hb1; replace qx1 := cell_keep qx1 hb1; replace SS := Lib.hid (SS.out.below hb1); replace SL := Lib.hid (SL.out.below hb1); replace BB := Lib.hid (below_step BB.out hb1); clear hrow hd hb1 KA)
            obtain ⟨WA, gA, hW2, hg2, hr2, hb1⟩ := boxU w1 (.int .i64 m) (.int .i64 e) (.slice pA ns cA) 24
            rw [hW2, hg2]
            replace s0 := cell_keep s0 hb1; replace s1 := cell_keep s1 hb1; replace s2 := cell_keep s2 hb1; replace qx0 := cell_keep qx0 hb1; replace qx1 := cell_keep qx1 hb1; replace SS := Lib.hid (SS.out.below hb1); replace SL := Lib.hid (SL.out.below hb1); replace SA := Lib.hid (SA.out.below hb1); replace BB := Lib.hid (below_step BB.out hb1)
            obtain ⟨a0, a1, a2, -⟩ := row3 hr2
            clear hW2 hg2 hr2 hb1
            go_upto_region 4 with (go_at_call 14; refine (KB.out _ SS.out SL.out).mono ?_; rintro e w1 ⟨v1, rfl, hrow, hb1⟩; obtain ⟨pB, cB, rfl, hd⟩ := dfsO hrow; rw [HNS.out] at hd ⊢; have SB := Lib.hid hd; replace s0 := cell_keep s0 hb1; replace s1 := cell_keep s1 hb1; replace s2 := cell_keep s2 hb1; replace qx0 := cell_keep qx0 hb1; replace qx1 := cell_keep qx1 hb1; replace a0 := cell_keep a0 hb1; replace a1 := cell_keep a1 hb1; replace a2 := cell_keep a2 hb1; replace SS := Lib.hid (SS.out.below hb1); replace SL := Lib.hid (SL.out.below hb1); replace SA := Lib.hid (SA.out.below hb1); replace BB := Lib.hid (below_step BB.out hb1); clear hrow hd hb1 KB)
            obtain ⟨WB, gB, hW2, hg2, hr2, hb1⟩ := boxU w1 (.int .i64 m) (.int .i64 e) (.slice pB ns cB) 24
            rw [hW2, hg2]
            replace s0 := cell_keep s0 hb1; replace s1 := cell_keep s1 hb1; replace s2 := cell_keep s2 hb1; replace qx0 := cell_keep qx0 hb1; replace qx1 := cell_keep qx1 hb1; replace a0 := cell_keep a0 hb1; replace a1 := cell_keep a1 hb1; replace a2 := cell_keep a2 hb1; replace SS := Lib.hid (SS.out.below hb1); replace SL := Lib.hid (SL.out.below hb1); replace SA := Lib.hid (SA.out.below hb1); replace SB := Lib.hid (SB.out.below hb1); replace BB := Lib.hid (below_step BB.out hb1)
            obtain ⟨b0, b1, b2, -⟩ := row3 hr2
            clear hW2 hg2 hr2 hb1
            have x1 : ∀ args w, (callFunc 15 args).run Tryz.prog w = .ok (.enter 15 args) w := enters_of Tryz.func15 (by kernel_rfl) rfl
            have x2 : ∀ args w, (callFunc 16 args).run Tryz.prog w = .ok (.enter 16 args) w := enters_of Tryz.func16 (by kernel_rfl) rfl
            have x3 : ∀ args w, (callFunc 17 args).run Tryz.prog w = .ok (.enter 17 args) w := enters_of Tryz.func17 (by kernel_rfl) rfl
            have x4 : ∀ args w, (callFunc 18 args).run Tryz.prog w = .ok (.enter 18 args) w := enters_of Tryz.func18 (by kernel_rfl) rfl
            go_upto_region 4 with fail
            refine rol_run (by kernel_rfl) [[], [0], [0, 1], [], [0, 1, 3], [0, 1, 2, 3, 4], [0, 1, 2, 3, 4, 5], [0, 1, 2, 3, 4, 5, 6], [0, 1, 2, 3, 4, 5, 6], [0, 1, 2, 3, 4, 5, 6, 7, 8], [0, 1, 2, 3, 4, 5, 6], [0, 1, 2, 3, 4, 5, 6], [0, 1, 2, 3, 4, 5, 6, 7, 8, 9, 10, 11], [0, 1, 2, 3, 4, 5, 6, 7, 8, 9, 10, 11, 12], [0, 1, 2, 3, 4, 5, 6, 7, 8, 9, 10, 11, 12, 13]] (by kernel_rfl) [36, 37, 38, 39, 40, 41, 42, 43, 44, 45, 46, 47, 48, 49, 50] [[], [0], [1], [], [3], [2, 4], [5], [6], [6], [6, 7, 8], [6], [6], [6, 10, 11], [6, 9, 12], [6, 13]] [0, 0, 0, 0, 0, 0, 0, 0, 0, 0, 0, 0, 0, 0, 0] [0, 0, 0, 0, 0, 0, 0, 0, 0, 0, 0, 0, 0, 0, 0] [1000, 1000, 1000, 1000, 1000, 1000, 1000, 1000, 1000, 1000, 1000, 1000, 1000, 1000, 1000] [.val 36 (.agg #[.int .i64 m, .int .i64 e, .slice aS ns cS]), .val 37 (.int .i64 0), .val 38 (.bool true), .val 39 (.agg #[.int .i64 m, .int .i64 e, .slice aS ns cS]), .val 40 (.bool true), .val 41 (.bool false), .val 42 (.bool false), .val 43 (.agg #[.int .i64 m, .int .i64 e, .slice pA ns cA]), .val 44 (.agg #[.int .i64 m, .int .i64 e, .slice aS ns cS]), .val 45 (.bool true), .val 46 (.agg #[.int .i64 m, .int .i64 e, .slice pA ns cA]), .val 47 (.agg #[.int .i64 m, .int .i64 e, .slice aS ns cS]), .val 48 (.bool true), .val 49 (.bool false), .val 50 (.bool false)] (by kernel_rfl) ?_ (WB.heap.size) (WB.heap.size) rfl (Below.refl _ _) rfl (fun _ => 0) ?_ ?_ ?_
            · intro j hj
              have hj3 : j < 15 := hj
              have hj2 : j = 0 ∨ j = 1 ∨ j = 2 ∨ j = 3 ∨ j = 4 ∨ j = 5 ∨ j = 6 ∨ j = 7 ∨ j = 8 ∨ j = 9 ∨ j = 10 ∨ j = 11 ∨ j = 12 ∨ j = 13 ∨ j = 14 := by omega
              clear hj hj3
              rcases hj2 with rfl | rfl | rfl | rfl | rfl | rfl | rfl | rfl | rfl | rfl | rfl | rfl | rfl | rfl | rfl
              · exact trivial
              · exact trivial
              · exact trivial
              · exact trivial
              · exact trivial
              · exact trivial
              · exact trivial
              · exact trivial
              · exact trivial
              · exact trivial
              · exact trivial
              · exact trivial
              · exact trivial
              · exact trivial
              · exact trivial
            · intro j hj0 hj
              exact absurd hj (Nat.not_lt.2 hj0)
            · intro i hi a wx who hG hF
              have hz : a.tmps.size = 151 := hG.size
              have hi3 : i < 15 := hi
              have hi2 : i = 0 ∨ i = 1 ∨ i = 2 ∨ i = 3 ∨ i = 4 ∨ i = 5 ∨ i = 6 ∨ i = 7 ∨ i = 8 ∨ i = 9 ∨ i = 10 ∨ i = 11 ∨ i = 12 ∨ i = 13 ∨ i = 14 := by omega
              clear hi hi3
              rcases hi2 with rfl | rfl | rfl | rfl | rfl | rfl | rfl | rfl | rfl | rfl | rfl | rfl | rfl | rfl | rfl
              · exact rol_val rfl rfl rfl (by rw [hz]; decide) (ex_load rfl (eval_slot ((hG.slots 3 (by decide)).trans rfl)) (ld_useC (cell_keep s0 hG.below) (cell_keep s1 hG.below) (cell_keep s2 hG.below))) hG.below
              · refine rol_call rfl rfl rfl (by rw [hz]; decide) (ex_call rfl (by simp [eval_slot (hF 0 (by decide))]) x1) (KC.out wx (SS.out.below hG.below)) ?_ hG.below hG.new
                rintro e w1 ⟨rfl, hb1⟩
                exact ⟨_, rfl, hb1, .inl rfl⟩
              · exact rol_val rfl rfl rfl (by rw [hz]; decide) (ex_bin rfl (eval_slot (hF 1 (by decide))) rfl (by go_simp) (by go_simp)) hG.below
              · exact rol_val rfl rfl rfl (by rw [hz]; decide) (ex_load rfl (eval_slot ((hG.slots 3 (by decide)).trans rfl)) (ld_useC (cell_keep s0 hG.below) (cell_keep s1 hG.below) (cell_keep s2 hG.below))) hG.below
              · refine rol_call rfl rfl rfl (by rw [hz]; decide) (ex_call rfl (by simp [eval_slot (hF 3 (by decide))]) x2) (KM.out wx (SS.out.below hG.below)) ?_ hG.below hG.new
                rintro e w1 ⟨rfl, hb1⟩
                exact ⟨_, rfl, hb1, .inl rfl⟩
              · exact rol_val rfl rfl rfl (by rw [hz]; decide) (ex_bin rfl (eval_slot (hF 2 (by decide))) (eval_slot (hF 4 (by decide))) (by go_simp) neq_selfB) hG.below
              · exact rol_val rfl rfl rfl (by rw [hz]; decide) (ex_move (Or.inl rfl) (eval_slot (hF 5 (by decide)))) hG.below
              · exact rol_val rfl (want_yes rfl rfl (hF 6 (by decide))) rfl (by rw [hz]; decide) (ex_load rfl (eval_slot ((hG.slots 7 (by decide)).trans rfl)) (ld_useC (cell_keep a0 hG.below) (cell_keep a1 hG.below) (cell_keep a2 hG.below))) hG.below
              · exact rol_val rfl (want_yes rfl rfl (hF 6 (by decide))) rfl (by rw [hz]; decide) (ex_load rfl (eval_slot ((hG.slots 3 (by decide)).trans rfl)) (ld_useC (cell_keep s0 hG.below) (cell_keep s1 hG.below) (cell_keep s2 hG.below))) hG.below
              · refine rol_call rfl (want_yes rfl rfl (hF 6 (by decide))) rfl (by rw [hz]; decide) (ex_call rfl (by simp [eval_slot (hF 7 (by decide)), eval_slot (hF 8 (by decide))]) x3) (usame_any m e m e pA aS ns cA ns cS _ s wx (SA.out.below hG.below) (SS.out.below hG.below)) ?_ hG.below hG.new
                rintro e w1 ⟨rfl, hb1⟩
                rw [HSM.out]
                exact ⟨_, rfl, hb1, .inl rfl⟩
              · exact rol_val rfl (want_yes rfl rfl (hF 6 (by decide))) rfl (by rw [hz]; decide) (ex_load rfl (eval_slot ((hG.slots 7 (by decide)).trans rfl)) (ld_useC (cell_keep a0 hG.below) (cell_keep a1 hG.below) (cell_keep a2 hG.below))) hG.below
              · exact rol_val rfl (want_yes rfl rfl (hF 6 (by decide))) rfl (by rw [hz]; decide) (ex_load rfl (eval_slot ((hG.slots 3 (by decide)).trans rfl)) (ld_useC (cell_keep s0 hG.below) (cell_keep s1 hG.below) (cell_keep s2 hG.below))) hG.below
              · refine rol_call rfl (want_yes rfl rfl (hF 6 (by decide))) rfl (by rw [hz]; decide) (ex_call rfl (by simp [eval_slot (hF 10 (by decide)), eval_slot (hF 11 (by decide))]) x4) (refusame_any m e m e pA aS ns cA ns cS _ s wx (SA.out.below hG.below) (SS.out.below hG.below)) ?_ hG.below hG.new
                rintro e w1 ⟨rfl, hb1⟩
                rw [HSM.out]
                exact ⟨_, rfl, hb1, .inl rfl⟩
              · exact rol_val rfl (want_yes rfl rfl (hF 6 (by decide))) rfl (by rw [hz]; decide) (ex_bin rfl (eval_slot (hF 9 (by decide))) (eval_slot (hF 12 (by decide))) (by go_simp) neq_selfB) hG.below
              · exact rol_val rfl rfl rfl (by rw [hz]; decide) (ex_pick_no rfl (eval_slot (hF 6 (by decide))) (eval_slot (hF 13 (by decide)))) hG.below
            · intro a wx who hG hF
              have fv50 : a.tmps.getD 50 undef = .bool false := eval_slot (s := 50) (hF 14 (of_decide_eq_true (by kernel_rfl)) (of_decide_eq_true (by kernel_rfl)))
              have hbx := hG.below
              have hnx := hG.new
              rw [hG.frame]
              simp only [List.foldl_cons, List.foldl_nil, List.setIfInBounds_toArray, List.set_cons_zero, List.set_cons_succ]
              generalize a.tmps.getD 36 undef = u36
              generalize a.tmps.getD 37 undef = u37
              generalize a.tmps.getD 38 undef = u38
              generalize a.tmps.getD 39 undef = u39
              generalize a.tmps.getD 40 undef = u40
              generalize a.tmps.getD 41 undef = u41
              generalize a.tmps.getD 42 undef = u42
              generalize a.tmps.getD 43 undef = u43
              generalize a.tmps.getD 44 undef = u44
              generalize a.tmps.getD 45 undef = u45
              generalize a.tmps.getD 46 undef = u46
              generalize a.tmps.getD 47 undef = u47
              generalize a.tmps.getD 48 undef = u48
              generalize a.tmps.getD 49 undef = u49
              rw [fv50]
              clear hF hG fv50
              replace s0 := cell_keep s0 hbx; replace s1 := cell_keep s1 hbx; replace s2 := cell_keep s2 hbx; replace qx0 := cell_keep qx0 hbx; replace qx1 := cell_keep qx1 hbx; replace a0 := cell_keep a0 hbx; replace a1 := cell_keep a1 hbx; replace a2 := cell_keep a2 hbx; replace b0 := cell_keep b0 hbx; replace b1 := cell_keep b1 hbx; replace b2 := cell_keep b2 hbx; replace SS := Lib.hid (SS.out.below hbx); replace SL := Lib.hid (SL.out.below hbx); replace SA := Lib.hid (SA.out.below hbx); replace SB := Lib.hid (SB.out.below hbx); replace BB := Lib.hid (below_step BB.out hbx)
              clear hbx hnx x1 x2 x3 x4
              obtain ⟨wr, hwr⟩ : ∃ r, r = wx := ⟨_, rfl⟩
              subst hwr
              go_upto_region 6 with fail
              refine rol_run (by kernel_rfl) [[], [], [0, 1], [], [3], [0, 1, 2, 3, 4], [0, 1, 2, 3, 4, 5]] (by kernel_rfl) [51, 52, 53, 54, 55, 56, 11] [[], [], [0, 1], [], [3], [2, 4], [5]] [1, 0, 1, 0, 3, 1, 1] [0, 0, 1, 0, 0, 1, 0] [2, 1000, 5, 1000, 1000, 1000, 1000] [.mem 51 (rowG wr.heap.size 26 2 0 (ndsC [])), .val 52 (.slice aL nL cL2), .mem 53 (rowG wr.heap.size 26 2 L.length (ndsC L)), .val 54 (.agg #[.string (mkB q1), .string (mkB q2)]), .mem 55 (blkG 26 #[.string (mkB q1), .string (mkB q2)] 1), .mem 56 (rowG wr.heap.size 26 2 ZZ.length (ndsC ZZ)), .mem 11 (rowG wr.heap.size 26 2 ZZ.length (ndsC ZZ))] (by kernel_rfl) ?_ (wr.heap.size) (wr.heap.size) rfl (Below.refl _ _) rfl (fun _ => 0) ?_ ?_ ?_
              · intro j hj
                have hj3 : j < 7 := hj
                have hj2 : j = 0 ∨ j = 1 ∨ j = 2 ∨ j = 3 ∨ j = 4 ∨ j = 5 ∨ j = 6 := by omega
                clear hj hj3
                rcases hj2 with rfl | rfl | rfl | rfl | rfl | rfl | rfl
                · exact rowG_near
                · exact trivial
                · exact rowG_near
                · exact trivial
                · exact blkG_near
                · exact rowG_near
                · exact rowG_near
              · intro j hj0 hj
                exact absurd hj (Nat.not_lt.2 hj0)
              · intro i hi a wx who hG hF
                have hz : a.tmps.size = 151 := hG.size
                have hi3 : i < 7 := hi
                have hi2 : i = 0 ∨ i = 1 ∨ i = 2 ∨ i = 3 ∨ i = 4 ∨ i = 5 ∨ i = 6 := by omega
                clear hi hi3
                rcases hi2 with rfl | rfl | rfl | rfl | rfl | rfl | rfl
                · exact rol_newO rfl rfl rfl (by rw [hz]; decide) (x := .cells #[] 26) (v := .slice (some ⟨wx.heap.size, 0, none⟩) 0 0) (ex_slice rfl (vs := #[]) (by simp) (by go_simp)) ⟨row_base (nds_row0 wx) hG.new, rfl⟩ hG.below hG.new
                · exact rol_val rfl rfl rfl (by rw [hz]; decide) (ex_move (Or.inl rfl) (eval_slot ((hG.slots 2 (by decide)).trans rfl))) hG.below
                · exact rol_app_ndG rfl rfl rfl (by rw [hz]; decide) rfl (hF 0 (by decide)) (eval_slot (hF 1 (by decide))) (SL.out.below hG.below) (by omega) hG.below (Nat.le_refl _) hG.new (by rw [HNL.out, Nat.zero_add]) (List.nil_append _).symm
                · exact rol_val rfl rfl rfl (by rw [hz]; decide) (ex_load rfl (eval_slot ((hG.slots 4 (by decide)).trans rfl)) (ld_node (cell_keep qx0 hG.below) (cell_keep qx1 hG.below))) hG.below
                · exact rol_newO rfl rfl rfl (by rw [hz]; decide) (x := .cells #[.string (mkB q1), .string (mkB q2)] 26) (v := .slice (some ⟨wx.heap.size, 0, none⟩) 1 1) (ex_slice rfl (vs := #[(0, .agg #[.string (mkB q1), .string (mkB q2)])]) (by simp only [List.map_toArray, List.map_cons, List.map_nil, eval_slot (hF 3 (by decide))]) (by go_simp)) ⟨_, rfl, rfl, heap_alloc_new _ _⟩ hG.below hG.new
                · obtain ⟨v, ob, hv, hob, b, rfl, rfl, hh⟩ := hF 4 (by decide)
                  exact rol_app_ndG rfl rfl rfl (by rw [hz]; decide) rfl (hF 2 (by decide)) (eval_slot hv) (blk_nd hh) (by have := HNL.out; omega) hG.below (Nat.le_refl _) hG.new (by rw [HZZ.out, List.length_append]; rfl) HZZ.out
                · exact rol_move rfl rfl rfl (by rw [hz]; decide) (Or.inr rfl) (hF 5 (by decide)) hG.below
              · intro a wx who hG hF
                obtain ⟨v11, ob11, fv11, fo11, fp11⟩ := hF 6 (of_decide_eq_true (by kernel_rfl)) (of_decide_eq_true (by kernel_rfl))
                replace fv11 : a.tmps.getD 11 undef = v11 := eval_slot (s := 11) fv11
                have hbx := hG.below
                have hnx := hG.new
                rw [hG.frame]
                simp only [List.foldl_cons, List.foldl_nil, List.setIfInBounds_toArray, List.set_cons_zero, List.set_cons_succ]
                generalize a.tmps.getD 51 undef = u51
                generalize a.tmps.getD 52 undef = u52
                generalize a.tmps.getD 53 undef = u53
                generalize a.tmps.getD 54 undef = u54
                generalize a.tmps.getD 55 undef = u55
                generalize a.tmps.getD 56 undef = u56
                rw [fv11]
                clear hF hG fv11
                obtain ⟨hrow, -⟩ := fp11
                obtain ⟨aZ, cZ, rfl, hdz⟩ := ndsO hrow
                rw [HZZL.out] at hdz ⊢
                have SZ := Lib.hid hdz
                replace s0 := cell_keep s0 hbx; replace s1 := cell_keep s1 hbx; replace s2 := cell_keep s2 hbx; replace qx0 := cell_keep qx0 hbx; replace qx1 := cell_keep qx1 hbx; replace a0 := cell_keep a0 hbx; replace a1 := cell_keep a1 hbx; replace a2 := cell_keep a2 hbx; replace b0 := cell_keep b0 hbx; replace b1 := cell_keep b1 hbx; replace b2 := cell_keep b2 hbx; replace SS := Lib.hid (SS.out.below hbx); replace SL := Lib.hid (SL.out.below hbx); replace SA := Lib.hid (SA.out.below hbx); replace SB := Lib.hid (SB.out.below hbx); replace BB := Lib.hid (below_step BB.out hbx)
                clear fo11 hrow hdz hbx hnx
                go_upto_region 9 with (first
                    | (go_at_call 16; refine (KM.out _ SS.out).mono ?_; rintro e w9 ⟨rfl, hb1⟩; replace s0 := cell_keep s0 hb1; replace s1 := cell_keep s1 hb1; replace s2 := cell_keep s2 hb1; replace qx0 := cell_keep qx0 hb1; replace qx1 := cell_keep qx1 hb1; replace a0 := cell_keep a0 hb1; replace a1 := cell_keep a1 hb1; replace a2 := cell_keep a2 hb1; replace b0 := cell_keep b0 hb1; replace b1 := cell_keep b1 hb1; replace b2 := cell_keep b2 hb1; replace SS := Lib.hid (SS.out.below hb1); replace SL := Lib.hid (SL.out.below hb1); replace SA := Lib.hid (SA.out.below hb1); replace SB := Lib.hid (SB.out.below hb1); replace SZ := Lib.hid (SZ.out.below hb1); replace BB := Lib.hid (below_step BB.out hb1); clear hb1 )
                    | (go_at_call 19; refine (KN.out _ _ SZ.out).mono ?_; rintro e w9 ⟨rfl, hb1⟩; rw [HAN.out]; replace s0 := cell_keep s0 hb1; replace s1 := cell_keep s1 hb1; replace s2 := cell_keep s2 hb1; replace qx0 := cell_keep qx0 hb1; replace qx1 := cell_keep qx1 hb1; replace a0 := cell_keep a0 hb1; replace a1 := cell_keep a1 hb1; replace a2 := cell_keep a2 hb1; replace b0 := cell_keep b0 hb1; replace b1 := cell_keep b1 hb1; replace b2 := cell_keep b2 hb1; replace SS := Lib.hid (SS.out.below hb1); replace SL := Lib.hid (SL.out.below hb1); replace SA := Lib.hid (SA.out.below hb1); replace SB := Lib.hid (SB.out.below hb1); replace SZ := Lib.hid (SZ.out.below hb1); replace BB := Lib.hid (below_step BB.out hb1); clear hb1 ))
                go_upto_region 10 with (go_at_call 21; refine (KX.out _ _ SS.out SZ.out).mono ?_; rintro e w1 ⟨v1, rfl, hrow, hb1⟩; obtain ⟨pX, cX, rfl, hd⟩ := dfsO hrow; rw [HNX.out] at hd ⊢; have SX := Lib.hid hd; replace s0 := cell_keep s0 hb1; replace s1 := cell_keep s1 hb1; replace s2 := cell_keep s2 hb1; replace qx0 := cell_keep qx0 hb1; replace qx1 := cell_keep qx1 hb1; replace a0 := cell_keep a0 hb1; replace a1 := cell_keep a1 hb1; replace a2 := cell_keep a2 hb1; replace b0 := cell_keep b0 hb1; replace b1 := cell_keep b1 hb1; replace b2 := cell_keep b2 hb1; replace SS := Lib.hid (SS.out.below hb1); replace SL := Lib.hid (SL.out.below hb1); replace SA := Lib.hid (SA.out.below hb1); replace SB := Lib.hid (SB.out.below hb1); replace SZ := Lib.hid (SZ.out.below hb1); replace BB := Lib.hid (below_step BB.out hb1); clear hrow hd hb1 KX)
                obtain ⟨WX, gX, hW2, hg2, hr2, hb1⟩ := boxU w1 (.int .i64 mx) (.int .i64 ex) (.slice pX nx cX) 24
                rw [hW2, hg2]
                replace s0 := cell_keep s0 hb1; replace s1 := cell_keep s1 hb1; replace s2 := cell_keep s2 hb1; replace qx0 := cell_keep qx0 hb1; replace qx1 := cell_keep qx1 hb1; replace a0 := cell_keep a0 hb1; replace a1 := cell_keep a1 hb1; replace a2 := cell_keep a2 hb1; replace b0 := cell_keep b0 hb1; replace b1 := cell_keep b1 hb1; replace b2 := cell_keep b2 hb1; replace SS := Lib.hid (SS.out.below hb1); replace SL := Lib.hid (SL.out.below hb1); replace SA := Lib.hid (SA.out.below hb1); replace SB := Lib.hid (SB.out.below hb1); replace SZ := Lib.hid (SZ.out.below hb1); replace SX := Lib.hid (SX.out.below hb1); replace BB := Lib.hid (below_step BB.out hb1)
                obtain ⟨x0, x1, x2, -⟩ := row3 hr2
                clear hW2 hg2 hr2 hb1
                go_upto_region 11 with (go_at_call 21; refine (KY.out _ _ SS.out SZ.out).mono ?_; rintro e w1 ⟨v1, rfl, hrow, hb1⟩; obtain ⟨pY, cY, rfl, hd⟩ := dfsO hrow; rw [HNY.out] at hd ⊢; have SY := Lib.hid hd; replace s0 := cell_keep s0 hb1; replace s1 := cell_keep s1 hb1; replace s2 := cell_keep s2 hb1; replace qx0 := cell_keep qx0 hb1; replace qx1 := cell_keep qx1 hb1; replace a0 := cell_keep a0 hb1; replace a1 := cell_keep a1 hb1; replace a2 := cell_keep a2 hb1; replace b0 := cell_keep b0 hb1; replace b1 := cell_keep b1 hb1; replace b2 := cell_keep b2 hb1; replace x0 := cell_keep x0 hb1; replace x1 := cell_keep x1 hb1; replace x2 := cell_keep x2 hb1; replace SS := Lib.hid (SS.out.below hb1); replace SL := Lib.hid (SL.out.below hb1); replace SA := Lib.hid (SA.out.below hb1); replace SB := Lib.hid (SB.out.below hb1); replace SZ := Lib.hid (SZ.out.below hb1); replace SX := Lib.hid (SX.out.below hb1); replace BB := Lib.hid (below_step BB.out hb1); clear hrow hd hb1 KY)
                obtain ⟨WY, gY, hW2, hg2, hr2, hb1⟩ := boxU w1 (.int .i64 my) (.int .i64 ey) (.slice pY ny cY) 24
                rw [hW2, hg2]
                replace s0 := cell_keep s0 hb1; replace s1 := cell_keep s1 hb1; replace s2 := cell_keep s2 hb1; replace qx0 := cell_keep qx0 hb1; replace qx1 := cell_keep qx1 hb1; replace a0 := cell_keep a0 hb1; replace a1 := cell_keep a1 hb1; replace a2 := cell_keep a2 hb1; replace b0 := cell_keep b0 hb1; replace b1 := cell_keep b1 hb1; replace b2 := cell_keep b2 hb1; replace x0 := cell_keep x0 hb1; replace x1 := cell_keep x1 hb1; replace x2 := cell_keep x2 hb1; replace SS := Lib.hid (SS.out.below hb1); replace SL := Lib.hid (SL.out.below hb1); replace SA := Lib.hid (SA.out.below hb1); replace SB := Lib.hid (SB.out.below hb1); replace SZ := Lib.hid (SZ.out.below hb1); replace SX := Lib.hid (SX.out.below hb1); replace SY := Lib.hid (SY.out.below hb1); replace BB := Lib.hid (below_step BB.out hb1)
                obtain ⟨y0, y1, y2, -⟩ := row3 hr2
                clear hW2 hg2 hr2 hb1
                go_wp2_with (first
                    | (go_at_call 18; refine (refusame_any _ _ _ _ _ _ _ _ _ _ _ _ _ (by first | exact SA.out | exact SB.out) (by first | exact SX.out | exact SY.out | exact SS.out)).mono ?_; rintro e w9 ⟨rfl, hb1⟩; rw [sameU_self]; replace s0 := cell_keep s0 hb1; replace s1 := cell_keep s1 hb1; replace s2 := cell_keep s2 hb1; replace qx0 := cell_keep qx0 hb1; replace qx1 := cell_keep qx1 hb1; replace a0 := cell_keep a0 hb1; replace a1 := cell_keep a1 hb1; replace a2 := cell_keep a2 hb1; replace b0 := cell_keep b0 hb1; replace b1 := cell_keep b1 hb1; replace b2 := cell_keep b2 hb1; replace x0 := cell_keep x0 hb1; replace x1 := cell_keep x1 hb1; replace x2 := cell_keep x2 hb1; replace y0 := cell_keep y0 hb1; replace y1 := cell_keep y1 hb1; replace y2 := cell_keep y2 hb1; replace SS := Lib.hid (SS.out.below hb1); replace SL := Lib.hid (SL.out.below hb1); replace SA := Lib.hid (SA.out.below hb1); replace SB := Lib.hid (SB.out.below hb1); replace SZ := Lib.hid (SZ.out.below hb1); replace SX := Lib.hid (SX.out.below hb1); replace SY := Lib.hid (SY.out.below hb1); replace BB := Lib.hid (below_step BB.out hb1); clear hb1 )
                    | (go_at_call 20; refine (rawake_any _).mono ?_; rintro e w9 ⟨rfl, hb1⟩; replace s0 := cell_keep s0 hb1; replace s1 := cell_keep s1 hb1; replace s2 := cell_keep s2 hb1; replace qx0 := cell_keep qx0 hb1; replace qx1 := cell_keep qx1 hb1; replace a0 := cell_keep a0 hb1; replace a1 := cell_keep a1 hb1; replace a2 := cell_keep a2 hb1; replace b0 := cell_keep b0 hb1; replace b1 := cell_keep b1 hb1; replace b2 := cell_keep b2 hb1; replace x0 := cell_keep x0 hb1; replace x1 := cell_keep x1 hb1; replace x2 := cell_keep x2 hb1; replace y0 := cell_keep y0 hb1; replace y1 := cell_keep y1 hb1; replace y2 := cell_keep y2 hb1; replace SS := Lib.hid (SS.out.below hb1); replace SL := Lib.hid (SL.out.below hb1); replace SA := Lib.hid (SA.out.below hb1); replace SB := Lib.hid (SB.out.below hb1); replace SZ := Lib.hid (SZ.out.below hb1); replace SX := Lib.hid (SX.out.below hb1); replace SY := Lib.hid (SY.out.below hb1); replace BB := Lib.hid (below_step BB.out hb1); clear hb1))
                go_ret
                exact ⟨rfl, BB.out⟩
          · rw [a2 hx] at ka
            rw [b1 hy] at kb
            simp only at ka kb
            rw [hx] at KX
            rw [hy] at KY
            clear a1 a2 b1 b2 hx hy
            have HSM := Lib.hid (sameU_self ⟨m, e, s⟩)
            have KA := Lib.hid ka; have KB := Lib.hid kb; have KC := Lib.hid kc; have KM := Lib.hid km; have KN := Lib.hid kn; have HZL := Lib.hid hZl
            clear ka kb kc km kn hZl
            go_upto_region 3 with (go_at_call 13; refine (KA.out _ SS.out SL.out).mono ?_; rintro e w1 ⟨v1, rfl, hrow, hb1⟩; obtain ⟨pA, cA, rfl, hd⟩ := dfsO hrow; rw [HNS.out] at hd ⊢; have SA := Lib.hid hd; replace s0 := cell_keep s0 hb1; replace s1 := cell_keep s1 hb1; replace s2 := cell_keep s2 hb1; replace qx0 := cell_keep qx0 hb1; replace qx1 := cell_keep qx1 hb1; replace SS := Lib.hid (SS.out.below hb1); replace SL := Lib.hid (SL.out.below hb1); replace BB := Lib.hid (below_step BB.out hb1); clear hrow hd hb1 KA)
            obtain ⟨WA, gA, hW2, hg2, hr2, hb1⟩ := boxU w1 (.int .i64 m) (.int .i64 e) (.slice pA ns cA) 24
            rw [hW2, hg2]
            replace s0 := cell_keep s0 hb1; replace s1 := cell_keep s1 hb1; replace s2 := cell_keep s2 hb1; replace qx0 := cell_keep qx0 hb1; replace qx1 := cell_keep qx1 hb1; replace SS := Lib.hid (SS.out.below hb1); replace SL := Lib.hid (SL.out.below hb1); replace SA := Lib.hid (SA.out.below hb1); replace BB := Lib.hid (below_step BB.out hb1)
            obtain ⟨a0, a1, a2, -⟩ := row3 hr2
            clear hW2 hg2 hr2 hb1
            go_upto_region 4 with (go_at_call 14; refine (KB.out _ SS.out SL.out).mono ?_; rintro e w1 ⟨v1, rfl, hrow, hb1⟩; obtain ⟨pB, cB, rfl, hd⟩ := dfsO hrow; rw [HNY.out] at hd ⊢; have SB := Lib.hid hd; replace s0 := cell_keep s0 hb1; replace s1 := cell_keep s1 hb1; replace s2 := cell_keep s2 hb1; replace qx0 := cell_keep qx0 hb1; replace qx1 := cell_keep qx1 hb1; replace a0 := cell_keep a0 hb1; replace a1 := cell_keep a1 hb1; replace a2 := cell_keep a2 hb1; replace SS := Lib.hid (SS.out.below hb1); replace SL := Lib.hid (SL.out.below hb1); replace SA := Lib.hid (SA.out.below hb1); replace BB := Lib.hid (below_step BB.out hb1); clear hrow hd hb1 KB)
            obtain ⟨WB, gB, hW2, hg2, hr2, hb1⟩ := boxU w1 (.int .i64 my) (.int .i64 ey) (.slice pB ny cB) 24
            rw [hW2, hg2]
            replace s0 := cell_keep s0 hb1; replace s1 := cell_keep s1 hb1; replace s2 := cell_keep s2 hb1; replace qx0 := cell_keep qx0 hb1; replace qx1 := cell_keep qx1 hb1; replace a0 := cell_keep a0 hb1; replace a1 := cell_keep a1 hb1; replace a2 := cell_keep a2 hb1; replace SS := Lib.hid (SS.out.below hb1); replace SL := Lib.hid (SL.out.below hb1); replace SA := Lib.hid (SA.out.below hb1); replace SB := Lib.hid (SB.out.below hb1); replace BB := Lib.hid (below_step BB.out hb1)
            obtain ⟨b0, b1, b2, -⟩ := row3 hr2
            clear hW2 hg2 hr2 hb1
            have x1 : ∀ args w, (callFunc 15 args).run Tryz.prog w = .ok (.enter 15 args) w := enters_of Tryz.func15 (by kernel_rfl) rfl
            have x2 : ∀ args w, (callFunc 16 args).run Tryz.prog w = .ok (.enter 16 args) w := enters_of Tryz.func16 (by kernel_rfl) rfl
            have x3 : ∀ args w, (callFunc 17 args).run Tryz.prog w = .ok (.enter 17 args) w := enters_of Tryz.func17 (by kernel_rfl) rfl
            have x4 : ∀ args w, (callFunc 18 args).run Tryz.prog w = .ok (.enter 18 args) w := enters_of Tryz.func18 (by kernel_rfl) rfl
            go_upto_region 4 with fail
            refine rol_run (by kernel_rfl) [[], [0], [0, 1], [], [0, 1, 3], [0, 1, 2, 3, 4], [0, 1, 2, 3, 4, 5], [0, 1, 2, 3, 4, 5, 6], [0, 1, 2, 3, 4, 5, 6], [0, 1, 2, 3, 4, 5, 6, 7, 8], [0, 1, 2, 3, 4, 5, 6], [0, 1, 2, 3, 4, 5, 6], [0, 1, 2, 3, 4, 5, 6, 7, 8, 9, 10, 11], [0, 1, 2, 3, 4, 5, 6, 7, 8, 9, 10, 11, 12], [0, 1, 2, 3, 4, 5, 6, 7, 8, 9, 10, 11, 12, 13]] (by kernel_rfl) [36, 37, 38, 39, 40, 41, 42, 43, 44, 45, 46, 47, 48, 49, 50] [[], [0], [1], [], [3], [2, 4], [5], [6], [6], [6, 7, 8], [6], [6], [6, 10, 11], [6, 9, 12], [6, 13]] [0, 0, 0, 0, 0, 0, 0, 0, 0, 0, 0, 0, 0, 0, 0] [0, 0, 0, 0, 0, 0, 0, 0, 0, 0, 0, 0, 0, 0, 0] [1000, 1000, 1000, 1000, 1000, 1000, 1000, 1000, 1000, 1000, 1000, 1000, 1000, 1000, 1000] [.val 36 (.agg #[.int .i64 m, .int .i64 e, .slice aS ns cS]), .val 37 (.int .i64 0), .val 38 (.bool true), .val 39 (.agg #[.int .i64 m, .int .i64 e, .slice aS ns cS]), .val 40 (.bool true), .val 41 (.bool false), .val 42 (.bool false), .val 43 (.agg #[.int .i64 m, .int .i64 e, .slice pA ns cA]), .val 44 (.agg #[.int .i64 m, .int .i64 e, .slice aS ns cS]), .val 45 (.bool true), .val 46 (.agg #[.int .i64 m, .int .i64 e, .slice pA ns cA]), .val 47 (.agg #[.int .i64 m, .int .i64 e, .slice aS ns cS]), .val 48 (.bool true), .val 49 (.bool false), .val 50 (.bool false)] (by kernel_rfl) ?_ (WB.heap.size) (WB.heap.size) rfl (Below.refl _ _) rfl (fun _ => 0) ?_ ?_ ?_
            · intro j hj
              have hj3 : j < 15 := hj
              have hj2 : j = 0 ∨ j = 1 ∨ j = 2 ∨ j = 3 ∨ j = 4 ∨ j = 5 ∨ j = 6 ∨ j = 7 ∨ j = 8 ∨ j = 9 ∨ j = 10 ∨ j = 11 ∨ j = 12 ∨ j = 13 ∨ j = 14 := by omega
              clear hj hj3
              rcases hj2 with rfl | rfl | rfl | rfl | rfl | rfl | rfl | rfl | rfl | rfl | rfl | rfl | rfl | rfl | rfl
              · exact trivial
              · exact trivial
              · exact trivial
              · exact trivial
              · exact trivial
              · exact trivial
              · exact trivial
              · exact trivial
              · exact trivial
              · exact trivial
              · exact trivial
              · exact trivial
              · exact trivial
              · exact trivial
              · exact trivial
            · intro j hj0 hj
              exact absurd hj (Nat.not_lt.2 hj0)
            · intro i hi a wx who hG hF
              have hz : a.tmps.size = 151 := hG.size
              have hi3 : i < 15 := hi
              have hi2 : i = 0 ∨ i = 1 ∨ i = 2 ∨ i = 3 ∨ i = 4 ∨ i = 5 ∨ i = 6 ∨ i = 7 ∨ i = 8 ∨ i = 9 ∨ i = 10 ∨ i = 11 ∨ i = 12 ∨ i = 13 ∨ i = 14 := by omega
              clear hi hi3
              rcases hi2 with rfl | rfl | rfl | rfl | rfl | rfl | rfl | rfl | rfl | rfl | rfl | rfl | rfl | rfl | rfl
              · exact rol_val rfl rfl rfl (by rw [hz]; decide) (ex_load rfl (eval_slot ((hG.slots 3 (by decide)).trans rfl)) (ld_useC (cell_keep s0 hG.below) (cell_keep s1 hG.below) (cell_keep s2 hG.below))) hG.below
              · refine rol_call rfl rfl rfl (by rw [hz]; decide) (ex_call rfl (by simp [eval_slot (hF 0 (by decide))]) x1) (KC.out wx (SS.out.below hG.below)) ?_ hG.below hG.new
                rintro e w1 ⟨rfl, hb1⟩
                exact ⟨_, rfl, hb1, .inl rfl⟩
              · exact rol_val rfl rfl rfl (by rw [hz]; decide) (ex_bin rfl (eval_slot (hF 1 (by decide))) rfl (by go_simp) (by go_simp)) hG.below
              · exact rol_val rfl rfl rfl (by rw [hz]; decide) (ex_load rfl (eval_slot ((hG.slots 3 (by decide)).trans rfl)) (ld_useC (cell_keep s0 hG.below) (cell_keep s1 hG.below) (cell_keep s2 hG.below))) hG.below
              · refine rol_call rfl rfl rfl (by rw [hz]; decide) (ex_call rfl (by simp [eval_slot (hF 3 (by decide))]) x2) (KM.out wx (SS.out.below hG.below)) ?_ hG.below hG.new
                rintro e w1 ⟨rfl, hb1⟩
                exact ⟨_, rfl, hb1, .inl rfl⟩
              · exact rol_val rfl rfl rfl (by rw [hz]; decide) (ex_bin rfl (eval_slot (hF 2 (by decide))) (eval_slot (hF 4 (by decide))) (by go_simp) neq_selfB) hG.below
              · exact rol_val rfl rfl rfl (by rw [hz]; decide) (ex_move (Or.inl rfl) (eval_slot (hF 5 (by decide)))) hG.below
              · exact rol_val rfl (want_yes rfl rfl (hF 6 (by decide))) rfl (by rw [hz]; decide) (ex_load rfl (eval_slot ((hG.slots 7 (by decide)).trans rfl)) (ld_useC (cell_keep a0 hG.below) (cell_keep a1 hG.below) (cell_keep a2 hG.below))) hG.below
              · exact rol_val rfl (want_yes rfl rfl (hF 6 (by decide))) rfl (by rw [hz]; decide) (ex_load rfl (eval_slot ((hG.slots 3 (by decide)).trans rfl)) (ld_useC (cell_keep s0 hG.below) (cell_keep s1 hG.below) (cell_keep s2 hG.below))) hG.below
              · refine rol_call rfl (want_yes rfl rfl (hF 6 (by decide))) rfl (by rw [hz]; decide) (ex_call rfl (by simp [eval_slot (hF 7 (by decide)), eval_slot (hF 8 (by decide))]) x3) (usame_any m e m e pA aS ns cA ns cS _ s wx (SA.out.below hG.below) (SS.out.below hG.below)) ?_ hG.below hG.new
                rintro e w1 ⟨rfl, hb1⟩
                rw [HSM.out]
                exact ⟨_, rfl, hb1, .inl rfl⟩
              · exact rol_val rfl (want_yes rfl rfl (hF 6 (by decide))) rfl (by rw [hz]; decide) (ex_load rfl (eval_slot ((hG.slots 7 (by decide)).trans rfl)) (ld_useC (cell_keep a0 hG.below) (cell_keep a1 hG.below) (cell_keep a2 hG.below))) hG.below
              · exact rol_val rfl (want_yes rfl rfl (hF 6 (by decide))) rfl (by rw [hz]; decide) (ex_load rfl (eval_slot ((hG.slots 3 (by decide)).trans rfl)) (ld_useC (cell_keep s0 hG.below) (cell_keep s1 hG.below) (cell_keep s2 hG.below))) hG.below
              · refine rol_call rfl (want_yes rfl rfl (hF 6 (by decide))) rfl (by rw [hz]; decide) (ex_call rfl (by simp [eval_slot (hF 10 (by decide)), eval_slot (hF 11 (by decide))]) x4) (refusame_any m e m e pA aS ns cA ns cS _ s wx (SA.out.below hG.below) (SS.out.below hG.below)) ?_ hG.below hG.new
                rintro e w1 ⟨rfl, hb1⟩
                rw [HSM.out]
                exact ⟨_, rfl, hb1, .inl rfl⟩
              · exact rol_val rfl (want_yes rfl rfl (hF 6 (by decide))) rfl (by rw [hz]; decide) (ex_bin rfl (eval_slot (hF 9 (by decide))) (eval_slot (hF 12 (by decide))) (by go_simp) neq_selfB) hG.below
              · exact rol_val rfl rfl rfl (by rw [hz]; decide) (ex_pick_no rfl (eval_slot (hF 6 (by decide))) (eval_slot (hF 13 (by decide)))) hG.below
            · intro a wx who hG hF
              have fv50 : a.tmps.getD 50 undef = .bool false := eval_slot (s := 50) (hF 14 (of_decide_eq_true (by kernel_rfl)) (of_decide_eq_true (by kernel_rfl)))
              have hbx := hG.below
              have hnx := hG.new
              rw [hG.frame]
              simp only [List.foldl_cons, List.foldl_nil, List.setIfInBounds_toArray, List.set_cons_zero, List.set_cons_succ]
              generalize a.tmps.getD 36 undef = u36
              generalize a.tmps.getD 37 undef = u37
              generalize a.tmps.getD 38 undef = u38
              generalize a.tmps.getD 39 undef = u39
              generalize a.tmps.getD 40 undef = u40
              generalize a.tmps.getD 41 undef = u41
              generalize a.tmps.getD 42 undef = u42
              generalize a.tmps.getD 43 undef = u43
              generalize a.tmps.getD 44 undef = u44
              generalize a.tmps.getD 45 undef = u45
              generalize a.tmps.getD 46 undef = u46
              generalize a.tmps.getD 47 undef = u47
              generalize a.tmps.getD 48 undef = u48
              generalize a.tmps.getD 49 undef = u49
              rw [fv50]
              clear hF hG fv50
              replace s0 := cell_keep s0 hbx; replace s1 := cell_keep s1 hbx; replace s2 := cell_keep s2 hbx; replace qx0 := cell_keep qx0 hbx; replace qx1 := cell_keep qx1 hbx; replace a0 := cell_keep a0 hbx; replace a1 := cell_keep a1 hbx; replace a2 := cell_keep a2 hbx; replace b0 := cell_keep b0 hbx; replace b1 := cell_keep b1 hbx; replace b2 := cell_keep b2 hbx; replace SS := Lib.hid (SS.out.below hbx); replace SL := Lib.hid (SL.out.below hbx); replace SA := Lib.hid (SA.out.below hbx); replace SB := Lib.hid (SB.out.below hbx); replace BB := Lib.hid (below_step BB.out hbx)
              clear hbx hnx x1 x2 x3 x4
              obtain ⟨wr, hwr⟩ : ∃ r, r = wx := ⟨_, rfl⟩
              subst hwr
              go_upto_region 6 with fail
              refine rol_run (by kernel_rfl) [[], [], [0, 1], [], [3], [0, 1, 2, 3, 4], [0, 1, 2, 3, 4, 5]] (by kernel_rfl) [51, 52, 53, 54, 55, 56, 11] [[], [], [0, 1], [], [3], [2, 4], [5]] [1, 0, 1, 0, 3, 1, 1] [0, 0, 1, 0, 0, 1, 0] [2, 1000, 5, 1000, 1000, 1000, 1000] [.mem 51 (rowG wr.heap.size 26 2 0 (ndsC [])), .val 52 (.slice aL nL cL2), .mem 53 (rowG wr.heap.size 26 2 L.length (ndsC L)), .val 54 (.agg #[.string (mkB q1), .string (mkB q2)]), .mem 55 (blkG 26 #[.string (mkB q1), .string (mkB q2)] 1), .mem 56 (rowG wr.heap.size 26 2 ZZ.length (ndsC ZZ)), .mem 11 (rowG wr.heap.size 26 2 ZZ.length (ndsC ZZ))] (by kernel_rfl) ?_ (wr.heap.size) (wr.heap.size) rfl (Below.refl _ _) rfl (fun _ => 0) ?_ ?_ ?_
              · intro j hj
                have hj3 : j < 7 := hj
                have hj2 : j = 0 ∨ j = 1 ∨ j = 2 ∨ j = 3 ∨ j = 4 ∨ j = 5 ∨ j = 6 := by omega
                clear hj hj3
                rcases hj2 with rfl | rfl | rfl | rfl | rfl | rfl | rfl
                · exact rowG_near
                · exact trivial
                · exact rowG_near
                · exact trivial
                · exact blkG_near
                · exact rowG_near
                · exact rowG_near
              · intro j hj0 hj
                exact absurd hj (Nat.not_lt.2 hj0)
              · intro i hi a wx who hG hF
                have hz : a.tmps.size = 151 := hG.size
                have hi3 : i < 7 := hi
                have hi2 : i = 0 ∨ i = 1 ∨ i = 2 ∨ i = 3 ∨ i = 4 ∨ i = 5 ∨ i = 6 := by omega
                clear hi hi3
                rcases hi2 with rfl | rfl | rfl | rfl | rfl | rfl | rfl
                · exact rol_newO rfl rfl rfl (by rw [hz]; decide) (x := .cells #[] 26) (v := .slice (some ⟨wx.heap.size, 0, none⟩) 0 0) (ex_slice rfl (vs := #[]) (by simp) (by go_simp)) ⟨row_base (nds_row0 wx) hG.new, rfl⟩ hG.below hG.new
                · exact rol_val rfl rfl rfl (by rw [hz]; decide) (ex_move (Or.inl rfl) (eval_slot ((hG.slots 2 (by decide)).trans rfl))) hG.below
                · exact rol_app_ndG rfl rfl rfl (by rw [hz]; decide) rfl (hF 0 (by decide)) (eval_slot (hF 1 (by decide))) (SL.out.below hG.below) (by omega) hG.below (Nat.le_refl _) hG.new (by rw [HNL.out, Nat.zero_add]) (List.nil_append _).symm
                · exact rol_val rfl rfl rfl (by rw [hz]; decide) (ex_load rfl (eval_slot ((hG.slots 4 (by decide)).trans rfl)) (ld_node (cell_keep qx0 hG.below) (cell_keep qx1 hG.below))) hG.below
                · exact rol_newO rfl rfl rfl (by rw [hz]; decide) (x := .cells #[.string (mkB q1), .string (mkB q2)] 26) (v := .slice (some ⟨wx.heap.size, 0, none⟩) 1 1) (ex_slice rfl (vs := #[(0, .agg #[.string (mkB q1), .string (mkB q2)])]) (by simp only [List.map_toArray, List.map_cons, List.map_nil, eval_slot (hF 3 (by decide))]) (by go_simp)) ⟨_, rfl, rfl, heap_alloc_new _ _⟩ hG.below hG.new
                · obtain ⟨v, ob, hv, hob, b, rfl, rfl, hh⟩ := hF 4 (by decide)
                  exact rol_app_ndG rfl rfl rfl (by rw [hz]; decide) rfl (hF 2 (by decide)) (eval_slot hv) (blk_nd hh) (by have := HNL.out; omega) hG.below (Nat.le_refl _) hG.new (by rw [HZZ.out, List.length_append]; rfl) HZZ.out
                · exact rol_move rfl rfl rfl (by rw [hz]; decide) (Or.inr rfl) (hF 5 (by decide)) hG.below
              · intro a wx who hG hF
                obtain ⟨v11, ob11, fv11, fo11, fp11⟩ := hF 6 (of_decide_eq_true (by kernel_rfl)) (of_decide_eq_true (by kernel_rfl))
                replace fv11 : a.tmps.getD 11 undef = v11 := eval_slot (s := 11) fv11
                have hbx := hG.below
                have hnx := hG.new
                rw [hG.frame]
                simp only [List.foldl_cons, List.foldl_nil, List.setIfInBounds_toArray, List.set_cons_zero, List.set_cons_succ]
                generalize a.tmps.getD 51 undef = u51
                generalize a.tmps.getD 52 undef = u52
                generalize a.tmps.getD 53 undef = u53
                generalize a.tmps.getD 54 undef = u54
                generalize a.tmps.getD 55 undef = u55
                generalize a.tmps.getD 56 undef = u56
                rw [fv11]
                clear hF hG fv11
                obtain ⟨hrow, -⟩ := fp11
                obtain ⟨aZ, cZ, rfl, hdz⟩ := ndsO hrow
                rw [HZZL.out] at hdz ⊢
                have SZ := Lib.hid hdz
                replace s0 := cell_keep s0 hbx; replace s1 := cell_keep s1 hbx; replace s2 := cell_keep s2 hbx; replace qx0 := cell_keep qx0 hbx; replace qx1 := cell_keep qx1 hbx; replace a0 := cell_keep a0 hbx; replace a1 := cell_keep a1 hbx; replace a2 := cell_keep a2 hbx; replace b0 := cell_keep b0 hbx; replace b1 := cell_keep b1 hbx; replace b2 := cell_keep b2 hbx; replace SS := Lib.hid (SS.out.below hbx); replace SL := Lib.hid (SL.out.below hbx); replace SA := Lib.hid (SA.out.below hbx); replace SB := Lib.hid (SB.out.below hbx); replace BB := Lib.hid (below_step BB.out hbx)
                clear fo11 hrow hdz hbx hnx
                go_upto_region 9 with (first
                    | (go_at_call 16; refine (KM.out _ SS.out).mono ?_; rintro e w9 ⟨rfl, hb1⟩; replace s0 := cell_keep s0 hb1; replace s1 := cell_keep s1 hb1; replace s2 := cell_keep s2 hb1; replace qx0 := cell_keep qx0 hb1; replace qx1 := cell_keep qx1 hb1; replace a0 := cell_keep a0 hb1; replace a1 := cell_keep a1 hb1; replace a2 := cell_keep a2 hb1; replace b0 := cell_keep b0 hb1; replace b1 := cell_keep b1 hb1; replace b2 := cell_keep b2 hb1; replace SS := Lib.hid (SS.out.below hb1); replace SL := Lib.hid (SL.out.below hb1); replace SA := Lib.hid (SA.out.below hb1); replace SB := Lib.hid (SB.out.below hb1); replace SZ := Lib.hid (SZ.out.below hb1); replace BB := Lib.hid (below_step BB.out hb1); clear hb1 )
                    | (go_at_call 19; refine (KN.out _ _ SZ.out).mono ?_; rintro e w9 ⟨rfl, hb1⟩; rw [HAN.out]; replace s0 := cell_keep s0 hb1; replace s1 := cell_keep s1 hb1; replace s2 := cell_keep s2 hb1; replace qx0 := cell_keep qx0 hb1; replace qx1 := cell_keep qx1 hb1; replace a0 := cell_keep a0 hb1; replace a1 := cell_keep a1 hb1; replace a2 := cell_keep a2 hb1; replace b0 := cell_keep b0 hb1; replace b1 := cell_keep b1 hb1; replace b2 := cell_keep b2 hb1; replace SS := Lib.hid (SS.out.below hb1); replace SL := Lib.hid (SL.out.below hb1); replace SA := Lib.hid (SA.out.below hb1); replace SB := Lib.hid (SB.out.below hb1); replace SZ := Lib.hid (SZ.out.below hb1); replace BB := Lib.hid (below_step BB.out hb1); clear hb1 ))
                go_upto_region 10 with (go_at_call 21; refine (KX.out _ _ SS.out SZ.out).mono ?_; rintro e w1 ⟨v1, rfl, hrow, hb1⟩; obtain ⟨pX, cX, rfl, hd⟩ := dfsO hrow; rw [HNX.out] at hd ⊢; have SX := Lib.hid hd; replace s0 := cell_keep s0 hb1; replace s1 := cell_keep s1 hb1; replace s2 := cell_keep s2 hb1; replace qx0 := cell_keep qx0 hb1; replace qx1 := cell_keep qx1 hb1; replace a0 := cell_keep a0 hb1; replace a1 := cell_keep a1 hb1; replace a2 := cell_keep a2 hb1; replace b0 := cell_keep b0 hb1; replace b1 := cell_keep b1 hb1; replace b2 := cell_keep b2 hb1; replace SS := Lib.hid (SS.out.below hb1); replace SL := Lib.hid (SL.out.below hb1); replace SA := Lib.hid (SA.out.below hb1); replace SB := Lib.hid (SB.out.below hb1); replace SZ := Lib.hid (SZ.out.below hb1); replace BB := Lib.hid (below_step BB.out hb1); clear hrow hd hb1 KX)
                obtain ⟨WX, gX, hW2, hg2, hr2, hb1⟩ := boxU w1 (.int .i64 mx) (.int .i64 ex) (.slice pX nx cX) 24
                rw [hW2, hg2]
                replace s0 := cell_keep s0 hb1; replace s1 := cell_keep s1 hb1; replace s2 := cell_keep s2 hb1; replace qx0 := cell_keep qx0 hb1; replace qx1 := cell_keep qx1 hb1; replace a0 := cell_keep a0 hb1; replace a1 := cell_keep a1 hb1; replace a2 := cell_keep a2 hb1; replace b0 := cell_keep b0 hb1; replace b1 := cell_keep b1 hb1; replace b2 := cell_keep b2 hb1; replace SS := Lib.hid (SS.out.below hb1); replace SL := Lib.hid (SL.out.below hb1); replace SA := Lib.hid (SA.out.below hb1); replace SB := Lib.hid (SB.out.below hb1); replace SZ := Lib.hid (SZ.out.below hb1); replace SX := Lib.hid (SX.out.below hb1); replace BB := Lib.hid (below_step BB.out hb1)
                obtain ⟨x0, x1, x2, -⟩ := row3 hr2
                clear hW2 hg2 hr2 hb1
                go_upto_region 11 with (go_at_call 21; refine (KY.out _ _ SS.out SZ.out).mono ?_; rintro e w1 ⟨v1, rfl, hrow, hb1⟩; obtain ⟨pY, cY, rfl, hd⟩ := dfsO hrow; rw [HNY.out] at hd ⊢; have SY := Lib.hid hd; replace s0 := cell_keep s0 hb1; replace s1 := cell_keep s1 hb1; replace s2 := cell_keep s2 hb1; replace qx0 := cell_keep qx0 hb1; replace qx1 := cell_keep qx1 hb1; replace a0 := cell_keep a0 hb1; replace a1 := cell_keep a1 hb1; replace a2 := cell_keep a2 hb1; replace b0 := cell_keep b0 hb1; replace b1 := cell_keep b1 hb1; replace b2 := cell_keep b2 hb1; replace x0 := cell_keep x0 hb1; replace x1 := cell_keep x1 hb1; replace x2 := cell_keep x2 hb1; replace SS := Lib.hid (SS.out.below hb1); replace SL := Lib.hid (SL.out.below hb1); replace SA := Lib.hid (SA.out.below hb1); replace SB := Lib.hid (SB.out.below hb1); replace SZ := Lib.hid (SZ.out.below hb1); replace SX := Lib.hid (SX.out.below hb1); replace BB := Lib.hid (below_step BB.out hb1); clear hrow hd hb1 KY)
                obtain ⟨WY, gY, hW2, hg2, hr2, hb1⟩ := boxU w1 (.int .i64 my) (.int .i64 ey) (.slice pY ny cY) 24
                rw [hW2, hg2]
                replace s0 := cell_keep s0 hb1; replace s1 := cell_keep s1 hb1; replace s2 := cell_keep s2 hb1; replace qx0 := cell_keep qx0 hb1; replace qx1 := cell_keep qx1 hb1; replace a0 := cell_keep a0 hb1; replace a1 := cell_keep a1 hb1; replace a2 := cell_keep a2 hb1; replace b0 := cell_keep b0 hb1; replace b1 := cell_keep b1 hb1; replace b2 := cell_keep b2 hb1; replace x0 := cell_keep x0 hb1; replace x1 := cell_keep x1 hb1; replace x2 := cell_keep x2 hb1; replace SS := Lib.hid (SS.out.below hb1); replace SL := Lib.hid (SL.out.below hb1); replace SA := Lib.hid (SA.out.below hb1); replace SB := Lib.hid (SB.out.below hb1); replace SZ := Lib.hid (SZ.out.below hb1); replace SX := Lib.hid (SX.out.below hb1); replace SY := Lib.hid (SY.out.below hb1); replace BB := Lib.hid (below_step BB.out hb1)
                obtain ⟨y0, y1, y2, -⟩ := row3 hr2
                clear hW2 hg2 hr2 hb1
                go_wp2_with (first
                    | (go_at_call 18; refine (refusame_any _ _ _ _ _ _ _ _ _ _ _ _ _ (by first | exact SA.out | exact SB.out) (by first | exact SX.out | exact SY.out | exact SS.out)).mono ?_; rintro e w9 ⟨rfl, hb1⟩; rw [sameU_self]; replace s0 := cell_keep s0 hb1; replace s1 := cell_keep s1 hb1; replace s2 := cell_keep s2 hb1; replace qx0 := cell_keep qx0 hb1; replace qx1 := cell_keep qx1 hb1; replace a0 := cell_keep a0 hb1; replace a1 := cell_keep a1 hb1; replace a2 := cell_keep a2 hb1; replace b0 := cell_keep b0 hb1; replace b1 := cell_keep b1 hb1; replace b2 := cell_keep b2 hb1; replace x0 := cell_keep x0 hb1; replace x1 := cell_keep x1 hb1; replace x2 := cell_keep x2 hb1; replace y0 := cell_keep y0 hb1; replace y1 := cell_keep y1 hb1; replace y2 := cell_keep y2 hb1; replace SS := Lib.hid (SS.out.below hb1); replace SL := Lib.hid (SL.out.below hb1); replace SA := Lib.hid (SA.out.below hb1); replace SB := Lib.hid (SB.out.below hb1); replace SZ := Lib.hid (SZ.out.below hb1); replace SX := Lib.hid (SX.out.below hb1); replace SY := Lib.hid (SY.out.below hb1); replace BB := Lib.hid (below_step BB.out hb1); clear hb1 )
                    | (go_at_call 20; refine (rawake_any _).mono ?_; rintro e w9 ⟨rfl, hb1⟩; replace s0 := cell_keep s0 hb1; replace s1 := cell_keep s1 hb1; replace s2 := cell_keep s2 hb1; replace qx0 := cell_keep qx0 hb1; replace qx1 := cell_keep qx1 hb1; replace a0 := cell_keep a0 hb1; replace a1 := cell_keep a1 hb1; replace a2 := cell_keep a2 hb1; replace b0 := cell_keep b0 hb1; replace b1 := cell_keep b1 hb1; replace b2 := cell_keep b2 hb1; replace x0 := cell_keep x0 hb1; replace x1 := cell_keep x1 hb1; replace x2 := cell_keep x2 hb1; replace y0 := cell_keep y0 hb1; replace y1 := cell_keep y1 hb1; replace y2 := cell_keep y2 hb1; replace SS := Lib.hid (SS.out.below hb1); replace SL := Lib.hid (SL.out.below hb1); replace SA := Lib.hid (SA.out.below hb1); replace SB := Lib.hid (SB.out.below hb1); replace SZ := Lib.hid (SZ.out.below hb1); replace SX := Lib.hid (SX.out.below hb1); replace SY := Lib.hid (SY.out.below hb1); replace BB := Lib.hid (below_step BB.out hb1); clear hb1))
                go_ret
                exact ⟨rfl, BB.out⟩
        · cases hy : okU my ey Y
          · rw [a1 hx] at ka
            rw [b2 hy] at kb
            simp only at ka kb
            rw [hx] at KX
            rw [hy] at KY
            clear a1 a2 b1 b2 hx hy
            obtain ⟨sm, hsm⟩ : ∃ b, sameU ⟨mx, ex, X⟩ ⟨m, e, s⟩ = b := ⟨_, rfl⟩
            have HSM := Lib.hid hsm
            clear hsm
            have KA := Lib.hid ka; have KB := Lib.hid kb; have KC := Lib.hid kc; have KM := Lib.hid km; have KN := Lib.hid kn; have HZL := Lib.hid hZl
            clear ka kb kc km kn hZl
            go_upto_region 3 with (go_at_call 13; refine (KA.out _ SS.out SL.out).mono ?_; rintro e w1 ⟨v1, rfl, hrow, hb1⟩; obtain ⟨pA, cA, rfl, hd⟩ := dfsO hrow; rw [HNX.out] at hd ⊢; have SA := Lib.hid hd; replace s0 := cell_keep s0 hb1; replace s1 := cell_keep s1 hb1; replace s2 := cell_keep s2 hb1; replace qx0 := cell_keep qx0 hb1; replace qx1 := cell_keep qx1 hb1; replace SS := Lib.hid (SS.out.below hb1); replace SL := Lib.hid (SL.out.below hb1); replace BB := Lib.hid (below_step BB.out hb1); clear hrow hd hb1 KA)
            obtain ⟨WA, gA, hW2, hg2, hr2, hb1⟩ := boxU w1 (.int .i64 mx) (.int .i64 ex) (.slice pA nx cA) 24
            rw [hW2, hg2]
            replace s0 := cell_keep s0 hb1; replace s1 := cell_keep s1 hb1; replace s2 := cell_keep s2 hb1; replace qx0 := cell_keep qx0 hb1; replace qx1 := cell_keep qx1 hb1; replace SS := Lib.hid (SS.out.below hb1); replace SL := Lib.hid (SL.out.below hb1); replace SA := Lib.hid (SA.out.below hb1); replace BB := Lib.hid (below_step BB.out hb1)
            obtain ⟨a0, a1, a2, -⟩ := row3 hr2
            clear hW2 hg2 hr2 hb1
            go_upto_region 4 with (go_at_call 14; refine (KB.out _ SS.out SL.out).mono ?_; rintro e w1 ⟨v1, rfl, hrow, hb1⟩; obtain ⟨pB, cB, rfl, hd⟩ := dfsO hrow; rw [HNS.out] at hd ⊢; have SB := Lib.hid hd; replace s0 := cell_keep s0 hb1; replace s1 := cell_keep s1 hb1; replace s2 := cell_keep s2 hb1; replace qx0 := cell_keep qx0 hb1; replace qx1 := cell_keep qx1 hb1; replace a0 := cell_keep a0 hb1; replace a1 := cell_keep a1 hb1; replace a2 := cell_keep a2 hb1; replace SS := Lib.hid (SS.out.below hb1); replace SL := Lib.hid (SL.out.below hb1); replace SA := Lib.hid (SA.out.below hb1); replace BB := Lib.hid (below_step BB.out hb1); clear hrow hd hb1 KB)
            obtain ⟨WB, gB, hW2, hg2, hr2, hb1⟩ := boxU w1 (.int .i64 m) (.int .i64 e) (.slice pB ns cB) 24
            rw [hW2, hg2]
            replace s0 := cell_keep s0 hb1; replace s1 := cell_keep s1 hb1; replace s2 := cell_keep s2 hb1; replace qx0 := cell_keep qx0 hb1; replace qx1 := cell_keep qx1 hb1; replace a0 := cell_keep a0 hb1; replace a1 := cell_keep a1 hb1; replace a2 := cell_keep a2 hb1; replace SS := Lib.hid (SS.out.below hb1); replace SL := Lib.hid (SL.out.below hb1); replace SA := Lib.hid (SA.out.below hb1); replace SB := Lib.hid (SB.out.below hb1); replace BB := Lib.hid (below_step BB.out hb1)
            obtain ⟨b0, b1, b2, -⟩ := row3 hr2
            clear hW2 hg2 hr2 hb1
            have x1 : ∀ args w, (callFunc 15 args).run Tryz.prog w = .ok (.enter 15 args) w := enters_of Tryz.func15 (by kernel_rfl) rfl
            have x2 : ∀ args w, (callFunc 16 args).run Tryz.prog w = .ok (.enter 16 args) w := enters_of Tryz.func16 (by kernel_rfl) rfl
            have x3 : ∀ args w, (callFunc 17 args).run Tryz.prog w = .ok (.enter 17 args) w := enters_of Tryz.func17 (by kernel_rfl) rfl
            have x4 : ∀ args w, (callFunc 18 args).run Tryz.prog w = .ok (.enter 18 args) w := enters_of Tryz.func18 (by kernel_rfl) rfl
            go_upto_region 4 with fail
            refine rol_run (by kernel_rfl) [[], [0], [0, 1], [], [0, 1, 3], [0, 1, 2, 3, 4], [0, 1, 2, 3, 4, 5], [0, 1, 2, 3, 4, 5, 6], [0, 1, 2, 3, 4, 5, 6], [0, 1, 2, 3, 4, 5, 6, 7, 8], [0, 1, 2, 3, 4, 5, 6], [0, 1, 2, 3, 4, 5, 6], [0, 1, 2, 3, 4, 5, 6, 7, 8, 9, 10, 11], [0, 1, 2, 3, 4, 5, 6, 7, 8, 9, 10, 11, 12], [0, 1, 2, 3, 4, 5, 6, 7, 8, 9, 10, 11, 12, 13]] (by kernel_rfl) [36, 37, 38, 39, 40, 41, 42, 43, 44, 45, 46, 47, 48, 49, 50] [[], [0], [1], [], [3], [2, 4], [5], [6], [6], [6, 7, 8], [6], [6], [6, 10, 11], [6, 9, 12], [6, 13]] [0, 0, 0, 0, 0, 0, 0, 0, 0, 0, 0, 0, 0, 0, 0] [0, 0, 0, 0, 0, 0, 0, 0, 0, 0, 0, 0, 0, 0, 0] [1000, 1000, 1000, 1000, 1000, 1000, 1000, 1000, 1000, 1000, 1000, 1000, 1000, 1000, 1000] [.val 36 (.agg #[.int .i64 m, .int .i64 e, .slice aS ns cS]), .val 37 (.int .i64 0), .val 38 (.bool true), .val 39 (.agg #[.int .i64 m, .int .i64 e, .slice aS ns cS]), .val 40 (.bool true), .val 41 (.bool false), .val 42 (.bool false), .val 43 (.agg #[.int .i64 mx, .int .i64 ex, .slice pA nx cA]), .val 44 (.agg #[.int .i64 m, .int .i64 e, .slice aS ns cS]), .val 45 (.bool sm), .val 46 (.agg #[.int .i64 mx, .int .i64 ex, .slice pA nx cA]), .val 47 (.agg #[.int .i64 m, .int .i64 e, .slice aS ns cS]), .val 48 (.bool sm), .val 49 (.bool false), .val 50 (.bool false)] (by kernel_rfl) ?_ (WB.heap.size) (WB.heap.size) rfl (Below.refl _ _) rfl (fun _ => 0) ?_ ?_ ?_
            · intro j hj
              have hj3 : j < 15 := hj
              have hj2 : j = 0 ∨ j = 1 ∨ j = 2 ∨ j = 3 ∨ j = 4 ∨ j = 5 ∨ j = 6 ∨ j = 7 ∨ j = 8 ∨ j = 9 ∨ j = 10 ∨ j = 11 ∨ j = 12 ∨ j = 13 ∨ j = 14 := by omega
              clear hj hj3
              rcases hj2 with rfl | rfl | rfl | rfl | rfl | rfl | rfl | rfl | rfl | rfl | rfl | rfl | rfl | rfl | rfl
              · exact trivial
              · exact trivial
              · exact trivial
              · exact trivial
              · exact trivial
              · exact trivial
              · exact trivial
              · exact trivial
              · exact trivial
              · exact trivial
              · exact trivial
              · exact trivial
              · exact trivial
              · exact trivial
              · exact trivial
            · intro j hj0 hj
              exact absurd hj (Nat.not_lt.2 hj0)
            · intro i hi a wx who hG hF
              have hz : a.tmps.size = 151 := hG.size
              have hi3 : i < 15 := hi
              have hi2 : i = 0 ∨ i = 1 ∨ i = 2 ∨ i = 3 ∨ i = 4 ∨ i = 5 ∨ i = 6 ∨ i = 7 ∨ i = 8 ∨ i = 9 ∨ i = 10 ∨ i = 11 ∨ i = 12 ∨ i = 13 ∨ i = 14 := by omega
              clear hi hi3
              rcases hi2 with rfl | rfl | rfl | rfl | rfl | rfl | rfl | rfl | rfl | rfl | rfl | rfl | rfl | rfl | rfl
              · exact rol_val rfl rfl rfl (by rw [hz]; decide) (ex_load rfl (eval_slot ((hG.slots 3 (by decide)).trans rfl)) (ld_useC (cell_keep s0 hG.below) (cell_keep s1 hG.below) (cell_keep s2 hG.below))) hG.below
              · refine rol_call rfl rfl rfl (by rw [hz]; decide) (ex_call rfl (by simp [eval_slot (hF 0 (by decide))]) x1) (KC.out wx (SS.out.below hG.below)) ?_ hG.below hG.new
                rintro e w1 ⟨rfl, hb1⟩
                exact ⟨_, rfl, hb1, .inl rfl⟩
              · exact rol_val rfl rfl rfl (by rw [hz]; decide) (ex_bin rfl (eval_slot (hF 1 (by decide))) rfl (by go_simp) (by go_simp)) hG.below
              · exact rol_val rfl rfl rfl (by rw [hz]; decide) (ex_load rfl (eval_slot ((hG.slots 3 (by decide)).trans rfl)) (ld_useC (cell_keep s0 hG.below) (cell_keep s1 hG.below) (cell_keep s2 hG.below))) hG.below
              · refine rol_call rfl rfl rfl (by rw [hz]; decide) (ex_call rfl (by simp [eval_slot (hF 3 (by decide))]) x2) (KM.out wx (SS.out.below hG.below)) ?_ hG.below hG.new
                rintro e w1 ⟨rfl, hb1⟩
                exact ⟨_, rfl, hb1, .inl rfl⟩
              · exact rol_val rfl rfl rfl (by rw [hz]; decide) (ex_bin rfl (eval_slot (hF 2 (by decide))) (eval_slot (hF 4 (by decide))) (by go_simp) neq_selfB) hG.below
              · exact rol_val rfl rfl rfl (by rw [hz]; decide) (ex_move (Or.inl rfl) (eval_slot (hF 5 (by decide)))) hG.below
              · exact rol_val rfl (want_yes rfl rfl (hF 6 (by decide))) rfl (by rw [hz]; decide) (ex_load rfl (eval_slot ((hG.slots 7 (by decide)).trans rfl)) (ld_useC (cell_keep a0 hG.below) (cell_keep a1 hG.below) (cell_keep a2 hG.below))) hG.below
              · exact rol_val rfl (want_yes rfl rfl (hF 6 (by decide))) rfl (by rw [hz]; decide) (ex_load rfl (eval_slot ((hG.slots 3 (by decide)).trans rfl)) (ld_useC (cell_keep s0 hG.below) (cell_keep s1 hG.below) (cell_keep s2 hG.below))) hG.below
              · refine rol_call rfl (want_yes rfl rfl (hF 6 (by decide))) rfl (by rw [hz]; decide) (ex_call rfl (by simp [eval_slot (hF 7 (by decide)), eval_slot (hF 8 (by decide))]) x3) (usame_any mx ex m e pA aS nx cA ns cS _ s wx (SA.out.below hG.below) (SS.out.below hG.below)) ?_ hG.below hG.new
                rintro e w1 ⟨rfl, hb1⟩
                rw [HSM.out]
                exact ⟨_, rfl, hb1, .inl rfl⟩
              · exact rol_val rfl (want_yes rfl rfl (hF 6 (by decide))) rfl (by rw [hz]; decide) (ex_load rfl (eval_slot ((hG.slots 7 (by decide)).trans rfl)) (ld_useC (cell_keep a0 hG.below) (cell_keep a1 hG.below) (cell_keep a2 hG.below))) hG.below
              · exact rol_val rfl (want_yes rfl rfl (hF 6 (by decide))) rfl (by rw [hz]; decide) (ex_load rfl (eval_slot ((hG.slots 3 (by decide)).trans rfl)) (ld_useC (cell_keep s0 hG.below) (cell_keep s1 hG.below) (cell_keep s2 hG.below))) hG.below
              · refine rol_call rfl (want_yes rfl rfl (hF 6 (by decide))) rfl (by rw [hz]; decide) (ex_call rfl (by simp [eval_slot (hF 10 (by decide)), eval_slot (hF 11 (by decide))]) x4) (refusame_any mx ex m e pA aS nx cA ns cS _ s wx (SA.out.below hG.below) (SS.out.below hG.below)) ?_ hG.below hG.new
                rintro e w1 ⟨rfl, hb1⟩
                rw [HSM.out]
                exact ⟨_, rfl, hb1, .inl rfl⟩
              · exact rol_val rfl (want_yes rfl rfl (hF 6 (by decide))) rfl (by rw [hz]; decide) (ex_bin rfl (eval_slot (hF 9 (by decide))) (eval_slot (hF 12 (by decide))) (by go_simp) neq_selfB) hG.below
              · exact rol_val rfl rfl rfl (by rw [hz]; decide) (ex_pick_no rfl (eval_slot (hF 6 (by decide))) (eval_slot (hF 13 (by decide)))) hG.below
            · intro a wx who hG hF
              have fv50 : a.tmps.getD 50 undef = .bool false := eval_slot (s := 50) (hF 14 (of_decide_eq_true (by kernel_rfl)) (of_decide_eq_true (by kernel_rfl)))
              have hbx := hG.below
              have hnx := hG.new
              rw [hG.frame]
              simp only [List.foldl_cons, List.foldl_nil, List.setIfInBounds_toArray, List.set_cons_zero, List.set_cons_succ]
              generalize a.tmps.getD 36 undef = u36
              generalize a.tmps.getD 37 undef = u37
              generalize a.tmps.getD 38 undef = u38
              generalize a.tmps.getD 39 undef = u39
              generalize a.tmps.getD 40 undef = u40
              generalize a.tmps.getD 41 undef = u41
              generalize a.tmps.getD 42 undef = u42
              generalize a.tmps.getD 43 undef = u43
              generalize a.tmps.getD 44 undef = u44
              generalize a.tmps.getD 45 undef = u45
              generalize a.tmps.getD 46 undef = u46
              generalize a.tmps.getD 47 undef = u47
              generalize a.tmps.getD 48 undef = u48
              generalize a.tmps.getD 49 undef = u49
              rw [fv50]
              clear hF hG fv50
              replace s0 := cell_keep s0 hbx; replace s1 := cell_keep s1 hbx; replace s2 := cell_keep s2 hbx; replace qx0 := cell_keep qx0 hbx; replace qx1 := cell_keep qx1 hbx; replace a0 := cell_keep a0 hbx; replace a1 := cell_keep a1 hbx; replace a2 := cell_keep a2 hbx; replace b0 := cell_keep b0 hbx; replace b1 := cell_keep b1 hbx; replace b2 := cell_keep b2 hbx; replace SS := Lib.hid (SS.out.below hbx); replace SL := Lib.hid (SL.out.below hbx); replace SA := Lib.hid (SA.out.below hbx); replace SB := Lib.hid (SB.out.below hbx); replace BB := Lib.hid (below_step BB.out hbx)
              clear hbx hnx x1 x2 x3 x4
              obtain ⟨wr, hwr⟩ : ∃ r, r = wx := ⟨_, rfl⟩
              subst hwr
              go_upto_region 6 with fail
              refine rol_run (by kernel_rfl) [[], [], [0, 1], [], [3], [0, 1, 2, 3, 4], [0, 1, 2, 3, 4, 5]] (by kernel_rfl) [51, 52, 53, 54, 55, 56, 11] [[], [], [0, 1], [], [3], [2, 4], [5]] [1, 0, 1, 0, 3, 1, 1] [0, 0, 1, 0, 0, 1, 0] [2, 1000, 5, 1000, 1000, 1000, 1000] [.mem 51 (rowG wr.heap.size 26 2 0 (ndsC [])), .val 52 (.slice aL nL cL2), .mem 53 (rowG wr.heap.size 26 2 L.length (ndsC L)), .val 54 (.agg #[.string (mkB q1), .string (mkB q2)]), .mem 55 (blkG 26 #[.string (mkB q1), .string (mkB q2)] 1), .mem 56 (rowG wr.heap.size 26 2 ZZ.length (ndsC ZZ)), .mem 11 (rowG wr.heap.size 26 2 ZZ.length (ndsC ZZ))] (by kernel_rfl) ?_ (wr.heap.size) (wr.heap.size) rfl (Below.refl _ _) rfl (fun _ => 0) ?_ ?_ ?_
              · intro j hj
                have hj3 : j < 7 := hj
                have hj2 : j = 0 ∨ j = 1 ∨ j = 2 ∨ j = 3 ∨ j = 4 ∨ j = 5 ∨ j = 6 := by omega
                clear hj hj3
                rcases hj2 with rfl | rfl | rfl | rfl | rfl | rfl | rfl
                · exact rowG_near
                · exact trivial
                · exact rowG_near
                · exact trivial
                · exact blkG_near
                · exact rowG_near
                · exact rowG_near
              · intro j hj0 hj
                exact absurd hj (Nat.not_lt.2 hj0)
              · intro i hi a wx who hG hF
                have hz : a.tmps.size = 151 := hG.size
                have hi3 : i < 7 := hi
                have hi2 : i = 0 ∨ i = 1 ∨ i = 2 ∨ i = 3 ∨ i = 4 ∨ i = 5 ∨ i = 6 := by omega
                clear hi hi3
                rcases hi2 with rfl | rfl | rfl | rfl | rfl | rfl | rfl
                · exact rol_newO rfl rfl rfl (by rw [hz]; decide) (x := .cells #[] 26) (v := .slice (some ⟨wx.heap.size, 0, none⟩) 0 0) (ex_slice rfl (vs := #[]) (by simp) (by go_simp)) ⟨row_base (nds_row0 wx) hG.new, rfl⟩ hG.below hG.new
                · exact rol_val rfl rfl rfl (by rw [hz]; decide) (ex_move (Or.inl rfl) (eval_slot ((hG.slots 2 (by decide)).trans rfl))) hG.below
                · exact rol_app_ndG rfl rfl rfl (by rw [hz]; decide) rfl (hF 0 (by decide)) (eval_slot (hF 1 (by decide))) (SL.out.below hG.below) (by omega) hG.below (Nat.le_refl _) hG.new (by rw [HNL.out, Nat.zero_add]) (List.nil_append _).symm
                · exact rol_val rfl rfl rfl (by rw [hz]; decide) (ex_load rfl (eval_slot ((hG.slots 4 (by decide)).trans rfl)) (ld_node (cell_keep qx0 hG.below) (cell_keep qx1 hG.below))) hG.below
                · exact rol_newO rfl rfl rfl (by rw [hz]; decide) (x := .cells #[.string (mkB q1), .string (mkB q2)] 26) (v := .slice (some ⟨wx.heap.size, 0, none⟩) 1 1) (ex_slice rfl (vs := #[(0, .agg #[.string (mkB q1), .string (mkB q2)])]) (by simp only [List.map_toArray, List.map_cons, List.map_nil, eval_slot (hF 3 (by decide))]) (by go_simp)) ⟨_, rfl, rfl, heap_alloc_new _ _⟩ hG.below hG.new
                · obtain ⟨v, ob, hv, hob, b, rfl, rfl, hh⟩ := hF 4 (by decide)
                  exact rol_app_ndG rfl rfl rfl (by rw [hz]; decide) rfl (hF 2 (by decide)) (eval_slot hv) (blk_nd hh) (by have := HNL.out; omega) hG.below (Nat.le_refl _) hG.new (by rw [HZZ.out, List.length_append]; rfl) HZZ.out
                · exact rol_move rfl rfl rfl (by rw [hz]; decide) (Or.inr rfl) (hF 5 (by decide)) hG.below
              · intro a wx who hG hF
                obtain ⟨v11, ob11, fv11, fo11, fp11⟩ := hF 6 (of_decide_eq_true (by kernel_rfl)) (of_decide_eq_true (by kernel_rfl))
                replace fv11 : a.tmps.getD 11 undef = v11 := eval_slot (s := 11) fv11
                have hbx := hG.below
                have hnx := hG.new
                rw [hG.frame]
                simp only [List.foldl_cons, List.foldl_nil, List.setIfInBounds_toArray, List.set_cons_zero, List.set_cons_succ]
                generalize a.tmps.getD 51 undef = u51
                generalize a.tmps.getD 52 undef = u52
                generalize a.tmps.getD 53 undef = u53
                generalize a.tmps.getD 54 undef = u54
                generalize a.tmps.getD 55 undef = u55
                generalize a.tmps.getD 56 undef = u56
                rw [fv11]
                clear hF hG fv11
                obtain ⟨hrow, -⟩ := fp11
                obtain ⟨aZ, cZ, rfl, hdz⟩ := ndsO hrow
                rw [HZZL.out] at hdz ⊢
                have SZ := Lib.hid hdz
                replace s0 := cell_keep s0 hbx; replace s1 := cell_keep s1 hbx; replace s2 := cell_keep s2 hbx; replace qx0 := cell_keep qx0 hbx; replace qx1 := cell_keep qx1 hbx; replace a0 := cell_keep a0 hbx; replace a1 := cell_keep a1 hbx; replace a2 := cell_keep a2 hbx; replace b0 := cell_keep b0 hbx; replace b1 := cell_keep b1 hbx; replace b2 := cell_keep b2 hbx; replace SS := Lib.hid (SS.out.below hbx); replace SL := Lib.hid (SL.out.below hbx); replace SA := Lib.hid (SA.out.below hbx); replace SB := Lib.hid (SB.out.below hbx); replace BB := Lib.hid (below_step BB.out hbx)
                clear fo11 hrow hdz hbx hnx
                go_upto_region 9 with (first
                    | (go_at_call 16; refine (KM.out _ SS.out).mono ?_; rintro e w9 ⟨rfl, hb1⟩; replace s0 := cell_keep s0 hb1; replace s1 := cell_keep s1 hb1; replace s2 := cell_keep s2 hb1; replace qx0 := cell_keep qx0 hb1; replace qx1 := cell_keep qx1 hb1; replace a0 := cell_keep a0 hb1; replace a1 := cell_keep a1 hb1; replace a2 := cell_keep a2 hb1; replace b0 := cell_keep b0 hb1; replace b1 := cell_keep b1 hb1; replace b2 := cell_keep b2 hb1; replace SS := Lib.hid (SS.out.below hb1); replace SL := Lib.hid (SL.out.below hb1); replace SA := Lib.hid (SA.out.below hb1); replace SB := Lib.hid (SB.out.below hb1); replace SZ := Lib.hid (SZ.out.below hb1); replace BB := Lib.hid (below_step BB.out hb1); clear hb1 )
                    | (go_at_call 19; refine (KN.out _ _ SZ.out).mono ?_; rintro e w9 ⟨rfl, hb1⟩; rw [HAN.out]; replace s0 := cell_keep s0 hb1; replace s1 := cell_keep s1 hb1; replace s2 := cell_keep s2 hb1; replace qx0 := cell_keep qx0 hb1; replace qx1 := cell_keep qx1 hb1; replace a0 := cell_keep a0 hb1; replace a1 := cell_keep a1 hb1; replace a2 := cell_keep a2 hb1; replace b0 := cell_keep b0 hb1; replace b1 := cell_keep b1 hb1; replace b2 := cell_keep b2 hb1; replace SS := Lib.hid (SS.out.below hb1); replace SL := Lib.hid (SL.out.below hb1); replace SA := Lib.hid (SA.out.below hb1); replace SB := Lib.hid (SB.out.below hb1); replace SZ := Lib.hid (SZ.out.below hb1); replace BB := Lib.hid (below_step BB.out hb1); clear hb1 ))
                go_upto_region 10 with (go_at_call 21; refine (KX.out _ _ SS.out SZ.out).mono ?_; rintro e w1 ⟨v1, rfl, hrow, hb1⟩; obtain ⟨pX, cX, rfl, hd⟩ := dfsO hrow; rw [HNX.out] at hd ⊢; have SX := Lib.hid hd; replace s0 := cell_keep s0 hb1; replace s1 := cell_keep s1 hb1; replace s2 := cell_keep s2 hb1; replace qx0 := cell_keep qx0 hb1; replace qx1 := cell_keep qx1 hb1; replace a0 := cell_keep a0 hb1; replace a1 := cell_keep a1 hb1; replace a2 := cell_keep a2 hb1; replace b0 := cell_keep b0 hb1; replace b1 := cell_keep b1 hb1; replace b2 := cell_keep b2 hb1; replace SS := Lib.hid (SS.out.below hb1); replace SL := Lib.hid (SL.out.below hb1); replace SA := Lib.hid (SA.out.below hb1); replace SB := Lib.hid (SB.out.below hb1); replace SZ := Lib.hid (SZ.out.below hb1); replace BB := Lib.hid (below_step BB.out hb1); clear hrow hd hb1 KX)
                obtain ⟨WX, gX, hW2, hg2, hr2, hb1⟩ := boxU w1 (.int .i64 mx) (.int .i64 ex) (.slice pX nx cX) 24
                rw [hW2, hg2]
                replace s0 := cell_keep s0 hb1; replace s1 := cell_keep s1 hb1; replace s2 := cell_keep s2 hb1; replace qx0 := cell_keep qx0 hb1; replace qx1 := cell_keep qx1 hb1; replace a0 := cell_keep a0 hb1; replace a1 := cell_keep a1 hb1; replace a2 := cell_keep a2 hb1; replace b0 := cell_keep b0 hb1; replace b1 := cell_keep b1 hb1; replace b2 := cell_keep b2 hb1; replace SS := Lib.hid (SS.out.below hb1); replace SL := Lib.hid (SL.out.below hb1); replace SA := Lib.hid (SA.out.below hb1); replace SB := Lib.hid (SB.out.below hb1); replace SZ := Lib.hid (SZ.out.below hb1); replace SX := Lib.hid (SX.out.below hb1); replace BB := Lib.hid (below_step BB.out hb1)
                obtain ⟨x0, x1, x2, -⟩ := row3 hr2
                clear hW2 hg2 hr2 hb1
                go_upto_region 11 with (go_at_call 21; refine (KY.out _ _ SS.out SZ.out).mono ?_; rintro e w1 ⟨v1, rfl, hrow, hb1⟩; obtain ⟨pY, cY, rfl, hd⟩ := dfsO hrow; rw [HNY.out] at hd ⊢; have SY := Lib.hid hd; replace s0 := cell_keep s0 hb1; replace s1 := cell_keep s1 hb1; replace s2 := cell_keep s2 hb1; replace qx0 := cell_keep qx0 hb1; replace qx1 := cell_keep qx1 hb1; replace a0 := cell_keep a0 hb1; replace a1 := cell_keep a1 hb1; replace a2 := cell_keep a2 hb1; replace b0 := cell_keep b0 hb1; replace b1 := cell_keep b1 hb1; replace b2 := cell_keep b2 hb1; replace x0 := cell_keep x0 hb1; replace x1 := cell_keep x1 hb1; replace x2 := cell_keep x2 hb1; replace SS := Lib.hid (SS.out.below hb1); replace SL := Lib.hid (SL.out.below hb1); replace SA := Lib.hid (SA.out.below hb1); replace SB := Lib.hid (SB.out.below hb1); replace SZ := Lib.hid (SZ.out.below hb1); replace SX := Lib.hid (SX.out.below hb1); replace BB := Lib.hid (below_step BB.out hb1); clear hrow hd hb1 KY)
                obtain ⟨WY, gY, hW2, hg2, hr2, hb1⟩ := boxU w1 (.int .i64 my) (.int .i64 ey) (.slice pY ny cY) 24
                rw [hW2, hg2]
                replace s0 := cell_keep s0 hb1; replace s1 := cell_keep s1 hb1; replace s2 := cell_keep s2 hb1; replace qx0 := cell_keep qx0 hb1; replace qx1 := cell_keep qx1 hb1; replace a0 := cell_keep a0 hb1; replace a1 := cell_keep a1 hb1; replace a2 := cell_keep a2 hb1; replace b0 := cell_keep b0 hb1; replace b1 := cell_keep b1 hb1; replace b2 := cell_keep b2 hb1; replace x0 := cell_keep x0 hb1; replace x1 := cell_keep x1 hb1; replace x2 := cell_keep x2 hb1; replace SS := Lib.hid (SS.out.below hb1); replace SL := Lib.hid (SL.out.below hb1); replace SA := Lib.hid (SA.out.below hb1); replace SB := Lib.hid (SB.out.below hb1); replace SZ := Lib.hid (SZ.out.below hb1); replace SX := Lib.hid (SX.out.below hb1); replace SY := Lib.hid (SY.out.below hb1); replace BB := Lib.hid (below_step BB.out hb1)
                obtain ⟨y0, y1, y2, -⟩ := row3 hr2
                clear hW2 hg2 hr2 hb1
                go_wp2_with (first
                    | (go_at_call 18; refine (refusame_any _ _ _ _ _ _ _ _ _ _ _ _ _ (by first | exact SA.out | exact SB.out) (by first | exact SX.out | exact SY.out | exact SS.out)).mono ?_; rintro e w9 ⟨rfl, hb1⟩; rw [sameU_self]; replace s0 := cell_keep s0 hb1; replace s1 := cell_keep s1 hb1; replace s2 := cell_keep s2 hb1; replace qx0 := cell_keep qx0 hb1; replace qx1 := cell_keep qx1 hb1; replace a0 := cell_keep a0 hb1; replace a1 := cell_keep a1 hb1; replace a2 := cell_keep a2 hb1; replace b0 := cell_keep b0 hb1; replace b1 := cell_keep b1 hb1; replace b2 := cell_keep b2 hb1; replace x0 := cell_keep x0 hb1; replace x1 := cell_keep x1 hb1; replace x2 := cell_keep x2 hb1; replace y0 := cell_keep y0 hb1; replace y1 := cell_keep y1 hb1; replace y2 := cell_keep y2 hb1; replace SS := Lib.hid (SS.out.below hb1); replace SL := Lib.hid (SL.out.below hb1); replace SA := Lib.hid (SA.out.below hb1); replace SB := Lib.hid (SB.out.below hb1); replace SZ := Lib.hid (SZ.out.below hb1); replace SX := Lib.hid (SX.out.below hb1); replace SY := Lib.hid (SY.out.below hb1); replace BB := Lib.hid (below_step BB.out hb1); clear hb1 )
                    | (go_at_call 20; refine (rawake_any _).mono ?_; rintro e w9 ⟨rfl, hb1⟩; replace s0 := cell_keep s0 hb1; replace s1 := cell_keep s1 hb1; replace s2 := cell_keep s2 hb1; replace qx0 := cell_keep qx0 hb1; replace qx1 := cell_keep qx1 hb1; replace a0 := cell_keep a0 hb1; replace a1 := cell_keep a1 hb1; replace a2 := cell_keep a2 hb1; replace b0 := cell_keep b0 hb1; replace b1 := cell_keep b1 hb1; replace b2 := cell_keep b2 hb1; replace x0 := cell_keep x0 hb1; replace x1 := cell_keep x1 hb1; replace x2 := cell_keep x2 hb1; replace y0 := cell_keep y0 hb1; replace y1 := cell_keep y1 hb1; replace y2 := cell_keep y2 hb1; replace SS := Lib.hid (SS.out.below hb1); replace SL := Lib.hid (SL.out.below hb1); replace SA := Lib.hid (SA.out.below hb1); replace SB := Lib.hid (SB.out.below hb1); replace SZ := Lib.hid (SZ.out.below hb1); replace SX := Lib.hid (SX.out.below hb1); replace SY := Lib.hid (SY.out.below hb1); replace BB := Lib.hid (below_step BB.out hb1); clear hb1))
                go_ret
                exact ⟨rfl, BB.out⟩
          · rw [a1 hx] at ka
            rw [b1 hy] at kb
            simp only at ka kb
            rw [hx] at KX
            rw [hy] at KY
            clear a1 a2 b1 b2 hx hy
            obtain ⟨sm, hsm⟩ : ∃ b, sameU ⟨mx, ex, X⟩ ⟨m, e, s⟩ = b := ⟨_, rfl⟩
            have HSM := Lib.hid hsm
            clear hsm
            have KA := Lib.hid ka; have KB := Lib.hid kb; have KC := Lib.hid kc; have KM := Lib.hid km; have KN := Lib.hid kn; have HZL := Lib.hid hZl
            clear ka kb kc km kn hZl
            go_upto_region 3 with (go_at_call 13; refine (KA.out _ SS.out SL.out).mono ?_; rintro e w1 ⟨v1, rfl, hrow, hb1⟩; obtain ⟨pA, cA, rfl, hd⟩ := dfsO hrow; rw [HNX.out] at hd ⊢; have SA := Lib.hid hd; replace s0 := cell_keep s0 hb1; replace s1 := cell_keep s1 hb1; replace s2 := cell_keep s2 hb1; replace qx0 := cell_keep qx0 hb1; replace qx1 := cell_keep qx1 hb1; replace SS := Lib.hid (SS.out.below hb1); replace SL := Lib.hid (SL.out.below hb1); replace BB := Lib.hid (below_step BB.out hb1); clear hrow hd hb1 KA)
            obtain ⟨WA, gA, hW2, hg2, hr2, hb1⟩ := boxU w1 (.int .i64 mx) (.int .i64 ex) (.slice pA nx cA) 24
            rw [hW2, hg2]
            replace s0 := cell_keep s0 hb1; replace s1 := cell_keep s1 hb1; replace s2 := cell_keep s2 hb1; replace qx0 := cell_keep qx0 hb1; replace qx1 := cell_keep qx1 hb1; replace SS := Lib.hid (SS.out.below hb1); replace SL := Lib.hid (SL.out.below hb1); replace SA := Lib.hid (SA.out.below hb1); replace BB := Lib.hid (below_step BB.out hb1)
            obtain ⟨a0, a1, a2, -⟩ := row3 hr2
            clear hW2 hg2 hr2 hb1
            go_upto_region 4 with (go_at_call 14; refine (KB.out _ SS.out SL.out).mono ?_; rintro e w1 ⟨v1, rfl, hrow, hb1⟩; obtain ⟨pB, cB, rfl, hd⟩ := dfsO hrow; rw [HNY.out] at hd ⊢; have SB := Lib.hid hd; replace s0 := cell_keep s0 hb1; replace s1 := cell_keep s1 hb1; replace s2 := cell_keep s2 hb1; replace qx0 := cell_keep qx0 hb1; replace qx1 := cell_keep qx1 hb1; replace a0 := cell_keep a0 hb1; replace a1 := cell_keep a1 hb1; replace a2 := cell_keep a2 hb1; replace SS := Lib.hid (SS.out.below hb1); replace SL := Lib.hid (SL.out.below hb1); replace SA := Lib.hid (SA.out.below hb1); replace BB := Lib.hid (below_step BB.out hb1); clear hrow hd hb1 KB)
            obtain ⟨WB, gB, hW2, hg2, hr2, hb1⟩ := boxU w1 (.int .i64 my) (.int .i64 ey) (.slice pB ny cB) 24
            rw [hW2, hg2]
            replace s0 := cell_keep s0 hb1; replace s1 := cell_keep s1 hb1; replace s2 := cell_keep s2 hb1; replace qx0 := cell_keep qx0 hb1; replace qx1 := cell_keep qx1 hb1; replace a0 := cell_keep a0 hb1; replace a1 := cell_keep a1 hb1; replace a2 := cell_keep a2 hb1; replace SS := Lib.hid (SS.out.below hb1); replace SL := Lib.hid (SL.out.below hb1); replace SA := Lib.hid (SA.out.below hb1); replace SB := Lib.hid (SB.out.below hb1); replace BB := Lib.hid (below_step BB.out hb1)
            obtain ⟨b0, b1, b2, -⟩ := row3 hr2
            clear hW2 hg2 hr2 hb1
            have x1 : ∀ args w, (callFunc 15 args).run Tryz.prog w = .ok (.enter 15 args) w := enters_of Tryz.func15 (by kernel_rfl) rfl
            have x2 : ∀ args w, (callFunc 16 args).run Tryz.prog w = .ok (.enter 16 args) w := enters_of Tryz.func16 (by kernel_rfl) rfl
            have x3 : ∀ args w, (callFunc 17 args).run Tryz.prog w = .ok (.enter 17 args) w := enters_of Tryz.func17 (by kernel_rfl) rfl
            have x4 : ∀ args w, (callFunc 18 args).run Tryz.prog w = .ok (.enter 18 args) w := enters_of Tryz.func18 (by kernel_rfl) rfl
            go_upto_region 4 with fail
            refine rol_run (by kernel_rfl) [[], [0], [0, 1], [], [0, 1, 3], [0, 1, 2, 3, 4], [0, 1, 2, 3, 4, 5], [0, 1, 2, 3, 4, 5, 6], [0, 1, 2, 3, 4, 5, 6], [0, 1, 2, 3, 4, 5, 6, 7, 8], [0, 1, 2, 3, 4, 5, 6], [0, 1, 2, 3, 4, 5, 6], [0, 1, 2, 3, 4, 5, 6, 7, 8, 9, 10, 11], [0, 1, 2, 3, 4, 5, 6, 7, 8, 9, 10, 11, 12], [0, 1, 2, 3, 4, 5, 6, 7, 8, 9, 10, 11, 12, 13]] (by kernel_rfl) [36, 37, 38, 39, 40, 41, 42, 43, 44, 45, 46, 47, 48, 49, 50] [[], [0], [1], [], [3], [2, 4], [5], [6], [6], [6, 7, 8], [6], [6], [6, 10, 11], [6, 9, 12], [6, 13]] [0, 0, 0, 0, 0, 0, 0, 0, 0, 0, 0, 0, 0, 0, 0] [0, 0, 0, 0, 0, 0, 0, 0, 0, 0, 0, 0, 0, 0, 0] [1000, 1000, 1000, 1000, 1000, 1000, 1000, 1000, 1000, 1000, 1000, 1000, 1000, 1000, 1000] [.val 36 (.agg #[.int .i64 m, .int .i64 e, .slice aS ns cS]), .val 37 (.int .i64 0), .val 38 (.bool true), .val 39 (.agg #[.int .i64 m, .int .i64 e, .slice aS ns cS]), .val 40 (.bool true), .val 41 (.bool false), .val 42 (.bool false), .val 43 (.agg #[.int .i64 mx, .int .i64 ex, .slice pA nx cA]), .val 44 (.agg #[.int .i64 m, .int .i64 e, .slice aS ns cS]), .val 45 (.bool sm), .val 46 (.agg #[.int .i64 mx, .int .i64 ex, .slice pA nx cA]), .val 47 (.agg #[.int .i64 m, .int .i64 e, .slice aS ns cS]), .val 48 (.bool sm), .val 49 (.bool false), .val 50 (.bool false)] (by kernel_rfl) ?_ (WB.heap.size) (WB.heap.size) rfl (Below.refl _ _) rfl (fun _ => 0) ?_ ?_ ?_
            · intro j hj
              have hj3 : j < 15 := hj
              have hj2 : j = 0 ∨ j = 1 ∨ j = 2 ∨ j = 3 ∨ j = 4 ∨ j = 5 ∨ j = 6 ∨ j = 7 ∨ j = 8 ∨ j = 9 ∨ j = 10 ∨ j = 11 ∨ j = 12 ∨ j = 13 ∨ j = 14 := by omega
              clear hj hj3
              rcases hj2 with rfl | rfl | rfl | rfl | rfl | rfl | rfl | rfl | rfl | rfl | rfl | rfl | rfl | rfl | rfl
              · exact trivial
              · exact trivial
              · exact trivial
              · exact trivial
              · exact trivial
              · exact trivial
              · exact trivial
              · exact trivial
              · exact trivial
              · exact trivial
              · exact trivial
              · exact trivial
              · exact trivial
              · exact trivial
              · exact trivial
            · intro j hj0 hj
              exact absurd hj (Nat.not_lt.2 hj0)
            · intro i hi a wx who hG hF
              have hz : a.tmps.size = 151 := hG.size
              have hi3 : i < 15 := hi
              have hi2 : i = 0 ∨ i = 1 ∨ i = 2 ∨ i = 3 ∨ i = 4 ∨ i = 5 ∨ i = 6 ∨ i = 7 ∨ i = 8 ∨ i = 9 ∨ i = 10 ∨ i = 11 ∨ i = 12 ∨ i = 13 ∨ i = 14 := by omega
              clear hi hi3
              rcases hi2 with rfl | rfl | rfl | rfl | rfl | rfl | rfl | rfl | rfl | rfl | rfl | rfl | rfl | rfl | rfl
              · exact rol_val rfl rfl rfl (by rw [hz]; decide) (ex_load rfl (eval_slot ((hG.slots 3 (by decide)).trans rfl)) (ld_useC (cell_keep s0 hG.below) (cell_keep s1 hG.below) (cell_keep s2 hG.below))) hG.below
              · refine rol_call rfl rfl rfl (by rw [hz]; decide) (ex_call rfl (by simp [eval_slot (hF 0 (by decide))]) x1) (KC.out wx (SS.out.below hG.below)) ?_ hG.below hG.new
                rintro e w1 ⟨rfl, hb1⟩
                exact ⟨_, rfl, hb1, .inl rfl⟩
              · exact rol_val rfl rfl rfl (by rw [hz]; decide) (ex_bin rfl (eval_slot (hF 1 (by decide))) rfl (by go_simp) (by go_simp)) hG.below
              · exact rol_val rfl rfl rfl (by rw [hz]; decide) (ex_load rfl (eval_slot ((hG.slots 3 (by decide)).trans rfl)) (ld_useC (cell_keep s0 hG.below) (cell_keep s1 hG.below) (cell_keep s2 hG.below))) hG.below
              · refine rol_call rfl rfl rfl (by rw [hz]; decide) (ex_call rfl (by simp [eval_slot (hF 3 (by decide))]) x2) (KM.out wx (SS.out.below hG.below)) ?_ hG.below hG.new
                rintro e w1 ⟨rfl, hb1⟩
                exact ⟨_, rfl, hb1, .inl rfl⟩
              · exact rol_val rfl rfl rfl (by rw [hz]; decide) (ex_bin rfl (eval_slot (hF 2 (by decide))) (eval_slot (hF 4 (by decide))) (by go_simp) neq_selfB) hG.below
              · exact rol_val rfl rfl rfl (by rw [hz]; decide) (ex_move (Or.inl rfl) (eval_slot (hF 5 (by decide)))) hG.below
              · exact rol_val rfl (want_yes rfl rfl (hF 6 (by decide))) rfl (by rw [hz]; decide) (ex_load rfl (eval_slot ((hG.slots 7 (by decide)).trans rfl)) (ld_useC (cell_keep a0 hG.below) (cell_keep a1 hG.below) (cell_keep a2 hG.below))) hG.below
              · exact rol_val rfl (want_yes rfl rfl (hF 6 (by decide))) rfl (by rw [hz]; decide) (ex_load rfl (eval_slot ((hG.slots 3 (by decide)).trans rfl)) (ld_useC (cell_keep s0 hG.below) (cell_keep s1 hG.below) (cell_keep s2 hG.below))) hG.below
              · refine rol_call rfl (want_yes rfl rfl (hF 6 (by decide))) rfl (by rw [hz]; decide) (ex_call rfl (by simp [eval_slot (hF 7 (by decide)), eval_slot (hF 8 (by decide))]) x3) (usame_any mx ex m e pA aS nx cA ns cS _ s wx (SA.out.below hG.below) (SS.out.below hG.below)) ?_ hG.below hG.new
                rintro e w1 ⟨rfl, hb1⟩
                rw [HSM.out]
                exact ⟨_, rfl, hb1, .inl rfl⟩
              · exact rol_val rfl (want_yes rfl rfl (hF 6 (by decide))) rfl (by rw [hz]; decide) (ex_load rfl (eval_slot ((hG.slots 7 (by decide)).trans rfl)) (ld_useC (cell_keep a0 hG.below) (cell_keep a1 hG.below) (cell_keep a2 hG.below))) hG.below
              · exact rol_val rfl (want_yes rfl rfl (hF 6 (by decide))) rfl (by rw [hz]; decide) (ex_load rfl (eval_slot ((hG.slots 3 (by decide)).trans rfl)) (ld_useC (cell_keep s0 hG.below) (cell_keep s1 hG.below) (cell_keep s2 hG.below))) hG.below
              · refine rol_call rfl (want_yes rfl rfl (hF 6 (by decide))) rfl (by rw [hz]; decide) (ex_call rfl (by simp [eval_slot (hF 10 (by decide)), eval_slot (hF 11 (by decide))]) x4) (refusame_any mx ex m e pA aS nx cA ns cS _ s wx (SA.out.below hG.below) (SS.out.below hG.below)) ?_ hG.below hG.new
                rintro e w1 ⟨rfl, hb1⟩
                rw [HSM.out]
                exact ⟨_, rfl, hb1, .inl rfl⟩
              · exact rol_val rfl (want_yes rfl rfl (hF 6 (by decide))) rfl (by rw [hz]; decide) (ex_bin rfl (eval_slot (hF 9 (by decide))) (eval_slot (hF 12 (by decide))) (by go_simp) neq_selfB) hG.below
              · exact rol_val rfl rfl rfl (by rw [hz]; decide) (ex_pick_no rfl (eval_slot (hF 6 (by decide))) (eval_slot (hF 13 (by decide)))) hG.below
            · intro a wx who hG hF
              have fv50 : a.tmps.getD 50 undef = .bool false := eval_slot (s := 50) (hF 14 (of_decide_eq_true (by kernel_rfl)) (of_decide_eq_true (by kernel_rfl)))
              have hbx := hG.below
              have hnx := hG.new
              rw [hG.frame]
              simp only [List.foldl_cons, List.foldl_nil, List.setIfInBounds_toArray, List.set_cons_zero, List.set_cons_succ]
              generalize a.tmps.getD 36 undef = u36
              generalize a.tmps.getD 37 undef = u37
              generalize a.tmps.getD 38 undef = u38
              generalize a.tmps.getD 39 undef = u39
              generalize a.tmps.getD 40 undef = u40
              generalize a.tmps.getD 41 undef = u41
              generalize a.tmps.getD 42 undef = u42
              generalize a.tmps.getD 43 undef = u43
              generalize a.tmps.getD 44 undef = u44
              generalize a.tmps.getD 45 undef = u45
              generalize a.tmps.getD 46 undef = u46
              generalize a.tmps.getD 47 undef = u47
              generalize a.tmps.getD 48 undef = u48
              generalize a.tmps.getD 49 undef = u49
              rw [fv50]
              clear hF hG fv50
              replace s0 := cell_keep s0 hbx; replace s1 := cell_keep s1 hbx; replace s2 := cell_keep s2 hbx; replace qx0 := cell_keep qx0 hbx; replace qx1 := cell_keep qx1 hbx; replace a0 := cell_keep a0 hbx; replace a1 := cell_keep a1 hbx; replace a2 := cell_keep a2 hbx; replace b0 := cell_keep b0 hbx; replace b1 := cell_keep b1 hbx; replace b2 := cell_keep b2 hbx; replace SS := Lib.hid (SS.out.below hbx); replace SL := Lib.hid (SL.out.below hbx); replace SA := Lib.hid (SA.out.below hbx); replace SB := Lib.hid (SB.out.below hbx); replace BB := Lib.hid (below_step BB.out hbx)
              clear hbx hnx x1 x2 x3 x4
              obtain ⟨wr, hwr⟩ : ∃ r, r = wx := ⟨_, rfl⟩
              subst hwr
              go_upto_region 6 with fail
              refine rol_run (by kernel_rfl) [[], [], [0, 1], [], [3], [0, 1, 2, 3, 4], [0, 1, 2, 3, 4, 5]] (by kernel_rfl) [51, 52, 53, 54, 55, 56, 11] [[], [], [0, 1], [], [3], [2, 4], [5]] [1, 0, 1, 0, 3, 1, 1] [0, 0, 1, 0, 0, 1, 0] [2, 1000, 5, 1000, 1000, 1000, 1000] [.mem 51 (rowG wr.heap.size 26 2 0 (ndsC [])), .val 52 (.slice aL nL cL2), .mem 53 (rowG wr.heap.size 26 2 L.length (ndsC L)), .val 54 (.agg #[.string (mkB q1), .string (mkB q2)]), .mem 55 (blkG 26 #[.string (mkB q1), .string (mkB q2)] 1), .mem 56 (rowG wr.heap.size 26 2 ZZ.length (ndsC ZZ)), .mem 11 (rowG wr.heap.size 26 2 ZZ.length (ndsC ZZ))] (by kernel_rfl) ?_ (wr.heap.size) (wr.heap.size) rfl (Below.refl _ _) rfl (fun _ => 0) ?_ ?_ ?_
              · intro j hj
                have hj3 : j < 7 := hj
                have hj2 : j = 0 ∨ j = 1 ∨ j = 2 ∨ j = 3 ∨ j = 4 ∨ j = 5 ∨ j = 6 := by omega
                clear hj hj3
                rcases hj2 with rfl | rfl | rfl | rfl | rfl | rfl | rfl
                · exact rowG_near
                · exact trivial
                · exact rowG_near
                · exact trivial
                · exact blkG_near
                · exact rowG_near
                · exact rowG_near
              · intro j hj0 hj
                exact absurd hj (Nat.not_lt.2 hj0)
              · intro i hi a wx who hG hF
                have hz : a.tmps.size = 151 := hG.size
                have hi3 : i < 7 := hi
                have hi2 : i = 0 ∨ i = 1 ∨ i = 2 ∨ i = 3 ∨ i = 4 ∨ i = 5 ∨ i = 6 := by omega
                clear hi hi3
                rcases hi2 with rfl | rfl | rfl | rfl | rfl | rfl | rfl
                · exact rol_newO rfl rfl rfl (by rw [hz]; decide) (x := .cells #[] 26) (v := .slice (some ⟨wx.heap.size, 0, none⟩) 0 0) (ex_slice rfl (vs := #[]) (by simp) (by go_simp)) ⟨row_base (nds_row0 wx) hG.new, rfl⟩ hG.below hG.new
                · exact rol_val rfl rfl rfl (by rw [hz]; decide) (ex_move (Or.inl rfl) (eval_slot ((hG.slots 2 (by decide)).trans rfl))) hG.below
                · exact rol_app_ndG rfl rfl rfl (by rw [hz]; decide) rfl (hF 0 (by decide)) (eval_slot (hF 1 (by decide))) (SL.out.below hG.below) (by omega) hG.below (Nat.le_refl _) hG.new (by rw [HNL.out, Nat.zero_add]) (List.nil_append _).symm
                · exact rol_val rfl rfl rfl (by rw [hz]; decide) (ex_load rfl (eval_slot ((hG.slots 4 (by decide)).trans rfl)) (ld_node (cell_keep qx0 hG.below) (cell_keep qx1 hG.below))) hG.below
                · exact rol_newO rfl rfl rfl (by rw [hz]; decide) (x := .cells #[.string (mkB q1), .string (mkB q2)] 26) (v := .slice (some ⟨wx.heap.size, 0, none⟩) 1 1) (ex_slice rfl (vs := #[(0, .agg #[.string (mkB q1), .string (mkB q2)])]) (by simp only [List.map_toArray, List.map_cons, List.map_nil, eval_slot (hF 3 (by decide))]) (by go_simp)) ⟨_, rfl, rfl, heap_alloc_new _ _⟩ hG.below hG.new
                · obtain ⟨v, ob, hv, hob, b, rfl, rfl, hh⟩ := hF 4 (by decide)
                  exact rol_app_ndG rfl rfl rfl (by rw [hz]; decide) rfl (hF 2 (by decide)) (eval_slot hv) (blk_nd hh) (by have := HNL.out; omega) hG.below (Nat.le_refl _) hG.new (by rw [HZZ.out, List.length_append]; rfl) HZZ.out
                · exact rol_move rfl rfl rfl (by rw [hz]; decide) (Or.inr rfl) (hF 5 (by decide)) hG.below
              · intro a wx who hG hF
                obtain ⟨v11, ob11, fv11, fo11, fp11⟩ := hF 6 (of_decide_eq_true (by kernel_rfl)) (of_decide_eq_true (by kernel_rfl))
                replace fv11 : a.tmps.getD 11 undef = v11 := eval_slot (s := 11) fv11
                have hbx := hG.below
                have hnx := hG.new
                rw [hG.frame]
                simp only [List.foldl_cons, List.foldl_nil, List.setIfInBounds_toArray, List.set_cons_zero, List.set_cons_succ]
                generalize a.tmps.getD 51 undef = u51
                generalize a.tmps.getD 52 undef = u52
                generalize a.tmps.getD 53 undef = u53
                generalize a.tmps.getD 54 undef = u54
                generalize a.tmps.getD 55 undef = u55
                generalize a.tmps.getD 56 undef = u56
                rw [fv11]
                clear hF hG fv11
                obtain ⟨hrow, -⟩ := fp11
                obtain ⟨aZ, cZ, rfl, hdz⟩ := ndsO hrow
                rw [HZZL.out] at hdz ⊢
                have SZ := Lib.hid hdz
                replace s0 := cell_keep s0 hbx; replace s1 := cell_keep s1 hbx; replace s2 := cell_keep s2 hbx; replace qx0 := cell_keep qx0 hbx; replace qx1 := cell_keep qx1 hbx; replace a0 := cell_keep a0 hbx; replace a1 := cell_keep a1 hbx; replace a2 := cell_keep a2 hbx; replace b0 := cell_keep b0 hbx; replace b1 := cell_keep b1 hbx; replace b2 := cell_keep b2 hbx; replace SS := Lib.hid (SS.out.below hbx); replace SL := Lib.hid (SL.out.below hbx); replace SA := Lib.hid (SA.out.below hbx); replace SB := Lib.hid (SB.out.below hbx); replace BB := Lib.hid (below_step BB.out hbx)
                clear fo11 hrow hdz hbx hnx
                go_upto_region 9 with (first
                    | (go_at_call 16; refine (KM.out _ SS.out).mono ?_; rintro e w9 ⟨rfl, hb1⟩; replace s0 := cell_keep s0 hb1; replace s1 := cell_keep s1 hb1; replace s2 := cell_keep s2 hb1; replace qx0 := cell_keep qx0 hb1; replace qx1 := cell_keep qx1 hb1; replace a0 := cell_keep a0 hb1; replace a1 := cell_keep a1 hb1; replace a2 := cell_keep a2 hb1; replace b0 := cell_keep b0 hb1; replace b1 := cell_keep b1 hb1; replace b2 := cell_keep b2 hb1; replace SS := Lib.hid (SS.out.below hb1); replace SL := Lib.hid (SL.out.below hb1); replace SA := Lib.hid (SA.out.below hb1); replace SB := Lib.hid (SB.out.below hb1); replace SZ := Lib.hid (SZ.out.below hb1); replace BB := Lib.hid (below_step BB.out hb1); clear hb1 )
                    | (go_at_call 19; refine (KN.out _ _ SZ.out).mono ?_; rintro e w9 ⟨rfl, hb1⟩; rw [HAN.out]; replace s0 := cell_keep s0 hb1; replace s1 := cell_keep s1 hb1; replace s2 := cell_keep s2 hb1; replace qx0 := cell_keep qx0 hb1; replace qx1 := cell_keep qx1 hb1; replace a0 := cell_keep a0 hb1; replace a1 := cell_keep a1 hb1; replace a2 := cell_keep a2 hb1; replace b0 := cell_keep b0 hb1; replace b1 := cell_keep b1 hb1; replace b2 := cell_keep b2 hb1; replace SS := Lib.hid (SS.out.below hb1); replace SL := Lib.hid (SL.out.below hb1); replace SA := Lib.hid (SA.out.below hb1); replace SB := Lib.hid (SB.out.below hb1); replace SZ := Lib.hid (SZ.out.below hb1); replace BB := Lib.hid (below_step BB.out hb1); clear hb1 ))
                go_upto_region 10 with (go_at_call 21; refine (KX.out _ _ SS.out SZ.out).mono ?_; rintro e w1 ⟨v1, rfl, hrow, hb1⟩; obtain ⟨pX, cX, rfl, hd⟩ := dfsO hrow; rw [HNX.out] at hd ⊢; have SX := Lib.hid hd; replace s0 := cell_keep s0 hb1; replace s1 := cell_keep s1 hb1; replace s2 := cell_keep s2 hb1; replace qx0 := cell_keep qx0 hb1; replace qx1 := cell_keep qx1 hb1; replace a0 := cell_keep a0 hb1; replace a1 := cell_keep a1 hb1; replace a2 := cell_keep a2 hb1; replace b0 := cell_keep b0 hb1; replace b1 := cell_keep b1 hb1; replace b2 := cell_keep b2 hb1; replace SS := Lib.hid (SS.out.below hb1); replace SL := Lib.hid (SL.out.below hb1); replace SA := Lib.hid (SA.out.below hb1); replace SB := Lib.hid (SB.out.below hb1); replace SZ := Lib.hid (SZ.out.below hb1); replace BB := Lib.hid (below_step BB.out hb1); clear hrow hd hb1 KX)
                obtain ⟨WX, gX, hW2, hg2, hr2, hb1⟩ := boxU w1 (.int .i64 mx) (.int .i64 ex) (.slice pX nx cX) 24
                rw [hW2, hg2]
                replace s0 := cell_keep s0 hb1; replace s1 := cell_keep s1 hb1; replace s2 := cell_keep s2 hb1; replace qx0 := cell_keep qx0 hb1; replace qx1 := cell_keep qx1 hb1; replace a0 := cell_keep a0 hb1; replace a1 := cell_keep a1 hb1; replace a2 := cell_keep a2 hb1; replace b0 := cell_keep b0 hb1; replace b1 := cell_keep b1 hb1; replace b2 := cell_keep b2 hb1; replace SS := Lib.hid (SS.out.below hb1); replace SL := Lib.hid (SL.out.below hb1); replace SA := Lib.hid (SA.out.below hb1); replace SB := Lib.hid (SB.out.below hb1); replace SZ := Lib.hid (SZ.out.below hb1); replace SX := Lib.hid (SX.out.below hb1); replace BB := Lib.hid (below_step BB.out hb1)
                obtain ⟨x0, x1, x2, -⟩ := row3 hr2
                clear hW2 hg2 hr2 hb1
                go_upto_region 11 with (go_at_call 21; refine (KY.out _ _ SS.out SZ.out).mono ?_; rintro e w1 ⟨v1, rfl, hrow, hb1⟩; obtain ⟨pY, cY, rfl, hd⟩ := dfsO hrow; rw [HNY.out] at hd ⊢; have SY := Lib.hid hd; replace s0 := cell_keep s0 hb1; replace s1 := cell_keep s1 hb1; replace s2 := cell_keep s2 hb1; replace qx0 := cell_keep qx0 hb1; replace qx1 := cell_keep qx1 hb1; replace a0 := cell_keep a0 hb1; replace a1 := cell_keep a1 hb1; replace a2 := cell_keep a2 hb1; replace b0 := cell_keep b0 hb1; replace b1 := cell_keep b1 hb1; replace b2 := cell_keep b2 hb1; replace x0 := cell_keep x0 hb1; replace x1 := cell_keep x1 hb1; replace x2 := cell_keep x2 hb1; replace SS := Lib.hid (SS.out.below hb1); replace SL := Lib.hid (SL.out.below hb1); replace SA := Lib.hid (SA.out.below hb1); replace SB := Lib.hid (SB.out.below hb1); replace SZ := Lib.hid (SZ.out.below hb1); replace SX := Lib.hid (SX.out.below hb1); replace BB := Lib.hid (below_step BB.out hb1); clear hrow hd hb1 KY)
                obtain ⟨WY, gY, hW2, hg2, hr2, hb1⟩ := boxU w1 (.int .i64 my) (.int .i64 ey) (.slice pY ny cY) 24
                rw [hW2, hg2]
                replace s0 := cell_keep s0 hb1; replace s1 := cell_keep s1 hb1; replace s2 := cell_keep s2 hb1; replace qx0 := cell_keep qx0 hb1; replace qx1 := cell_keep qx1 hb1; replace a0 := cell_keep a0 hb1; replace a1 := cell_keep a1 hb1; replace a2 := cell_keep a2 hb1; replace b0 := cell_keep b0 hb1; replace b1 := cell_keep b1 hb1; replace b2 := cell_keep b2 hb1; replace x0 := cell_keep x0 hb1; replace x1 := cell_keep x1 hb1; replace x2 := cell_keep x2 hb1; replace SS := Lib.hid (SS.out.below hb1); replace SL := Lib.hid (SL.out.below hb1); replace SA := Lib.hid (SA.out.below hb1); replace SB := Lib.hid (SB.out.below hb1); replace SZ := Lib.hid (SZ.out.below hb1); replace SX := Lib.hid (SX.out.below hb1); replace SY := Lib.hid (SY.out.below hb1); replace BB := Lib.hid (below_step BB.out hb1)
                obtain ⟨y0, y1, y2, -⟩ := row3 hr2
                clear hW2 hg2 hr2 hb1
                go_wp2_with (first
                    | (go_at_call 18; refine (refusame_any _ _ _ _ _ _ _ _ _ _ _ _ _ (by first | exact SA.out | exact SB.out) (by first | exact SX.out | exact SY.out | exact SS.out)).mono ?_; rintro e w9 ⟨rfl, hb1⟩; rw [sameU_self]; replace s0 := cell_keep s0 hb1; replace s1 := cell_keep s1 hb1; replace s2 := cell_keep s2 hb1; replace qx0 := cell_keep qx0 hb1; replace qx1 := cell_keep qx1 hb1; replace a0 := cell_keep a0 hb1; replace a1 := cell_keep a1 hb1; replace a2 := cell_keep a2 hb1; replace b0 := cell_keep b0 hb1; replace b1 := cell_keep b1 hb1; replace b2 := cell_keep b2 hb1; replace x0 := cell_keep x0 hb1; replace x1 := cell_keep x1 hb1; replace x2 := cell_keep x2 hb1; replace y0 := cell_keep y0 hb1; replace y1 := cell_keep y1 hb1; replace y2 := cell_keep y2 hb1; replace SS := Lib.hid (SS.out.below hb1); replace SL := Lib.hid (SL.out.below hb1); replace SA := Lib.hid (SA.out.below hb1); replace SB := Lib.hid (SB.out.below hb1); replace SZ := Lib.hid (SZ.out.below hb1); replace SX := Lib.hid (SX.out.below hb1); replace SY := Lib.hid (SY.out.below hb1); replace BB := Lib.hid (below_step BB.out hb1); clear hb1 )
                    | (go_at_call 20; refine (rawake_any _).mono ?_; rintro e w9 ⟨rfl, hb1⟩; replace s0 := cell_keep s0 hb1; replace s1 := cell_keep s1 hb1; replace s2 := cell_keep s2 hb1; replace qx0 := cell_keep qx0 hb1; replace qx1 := cell_keep qx1 hb1; replace a0 := cell_keep a0 hb1; replace a1 := cell_keep a1 hb1; replace a2 := cell_keep a2 hb1; replace b0 := cell_keep b0 hb1; replace b1 := cell_keep b1 hb1; replace b2 := cell_keep b2 hb1; replace x0 := cell_keep x0 hb1; replace x1 := cell_keep x1 hb1; replace x2 := cell_keep x2 hb1; replace y0 := cell_keep y0 hb1; replace y1 := cell_keep y1 hb1; replace y2 := cell_keep y2 hb1; replace SS := Lib.hid (SS.out.below hb1); replace SL := Lib.hid (SL.out.below hb1); replace SA := Lib.hid (SA.out.below hb1); replace SB := Lib.hid (SB.out.below hb1); replace SZ := Lib.hid (SZ.out.below hb1); replace SX := Lib.hid (SX.out.below hb1); replace SY := Lib.hid (SY.out.below hb1); replace BB := Lib.hid (below_step BB.out hb1); clear hb1))
                go_ret
                exact ⟨rfl, BB.out⟩

theorem own : ownKnob Tryz.prog.godebug = none := by kernel_rfl
theorem laidOut : laidOutB Tryz.prog = true := by kernel_rfl

set_option maxRecDepth 100000 in
theorem lifted (os : Os) (started : os.Started) (H : Type) (enc : TypeId × Value → H) :
    ReturnsInHanded {} Tryz.checked os 3 .any (Rows.roomTakesSpec.pre6 enc Tryz.prog Tryz.f3 Rows.roomTakesRow.domain false) (Rows.roomTakesSpec.post enc Tryz.prog Tryz.f3 false true false false) := by
  refine returnsInHanded_of_change (C := Tryz.checked) own started (by kernel_rfl) Tryz.func3
    (ChangeSpec.witness6 (enc := enc) (C := Tryz.checked) false ⟨#[], #[.agg #[.int .i64 0, .int .i64 0, .slice none 0 0], .agg #[.string ByteArray.empty, .string ByteArray.empty], .slice none 0 0], []⟩ 8 (by kernel_rfl) (by kernel_rfl) (by kernel_rfl) (by kernel_rfl)) ?_
  intro W base args ds gs before hval0 hW hcnd _
  have hval : ∀ (j : Nat) t v, Tryz.f3.params[j]? = some t → args[j]? = some v → Value.okWide Tryz.prog W .any base t v := hval0
  have hW' := hW
  obtain ⟨p, q, hA0, hV, rfl, hfz, hnd⟩ := hW
  have hA : DataW.TrodAll enc Tryz.prog W 0 (fun _ => true) true Tryz.f3.params.toList args.toList ds p := hA0
  rw [Tryz.params3] at hA hval
  obtain ⟨v0, vs0, d0, ds0, p0, q0, hargs, rfl, rfl, h0, r0⟩ := trodAll_cons hA
  obtain ⟨v1, vs1, d1, ds1, p1, q1, rfl, rfl, rfl, h1, r1⟩ := trodAll_cons r0
  obtain ⟨v2, vs2, d2, ds2, p2, q2, rfl, rfl, rfl, h2, r2⟩ := trodAll_cons r1
  obtain ⟨rfl, rfl, rfl⟩ := trodAll_nil r2
  obtain rfl : args = #[v0, v1, v2] := by cases args; simp_all
  obtain ⟨rfl, rfl⟩ := trodVars_none hV
  have k0 := h0
  have lt0 : ∀ x ∈ p0, x.block < W.heap.size := by obtain ⟨m, hm⟩ := k0; exact DataW.trod_lt m _ _ _ hm
  obtain ⟨z0, w0⟩ := use_open (hval 0 24 v0 rfl rfl) h0
  have k1 := h1
  have lt1 : ∀ x ∈ p1, x.block < W.heap.size := by obtain ⟨m, hm⟩ := k1; exact DataW.trod_lt m _ _ _ hm
  obtain ⟨z1, w1⟩ := node_open (hval 1 26 v1 rfl rfl) h1
  obtain ⟨a2, len2, cap2, rfl⟩ := okWide_slice Tryz.underlying27 (hval 2 27 v2 rfl rfl)
  have k2 := h2
  have lt2 : ∀ x ∈ p2, x.block < W.heap.size := by obtain ⟨m, hm⟩ := k2; exact DataW.trod_lt m _ _ _ hm
  obtain ⟨z2, w2⟩ : ∃ zs, Nds W (.slice a2 len2 cap2) zs ∧ ∀ n ∈ zs, fitsN n := by
    obtain ⟨fuel, hf⟩ := h2
    exact nds_open (by simpa [Value.cells] using hf)
  clear hA0 hval0
  refine (walk _ z0 _ z1 _ z2 W w0 w1 w2).mono fun e W' ⟨he, bel⟩ => ?_
  subst he
  exact ⟨_, rfl, _, _, _, [], _, [], hW', trodAll_mk1 (shut_bool Tryz.underlying4 _), (trodAll_cons_mk (Below.trod laidOut (by kernel_rfl) (of_decide_eq_true (by kernel_rfl)) k0 bel lt0) (trodAll_cons_mk (Below.trod laidOut (by kernel_rfl) (of_decide_eq_true (by kernel_rfl)) k1 bel lt1) (trodAll_cons_mk (Below.trod laidOut (by kernel_rfl) (of_decide_eq_true (by kernel_rfl)) k2 bel lt2) trodAll_mk0))), rfl, bel.frame _, fun h => by cases h⟩

-- the given statement
theorem proved : Rows.RoomTakesSaid :=
  OpenClaim.holds_of_wide 3 Tryz.f3 rfl rfl rfl rfl rfl rfl rfl ⟨rfl, rfl, rfl, rfl, rfl⟩ rfl rfl rfl rfl rfl (by kernel_rfl) Tryz.func3 (by kernel_rfl)
    (of_decide_eq_true (by kernel_rfl)) (by unfold Func.isWrapper; first | (rw [if_pos (by decide +kernel)]; kernel_rfl) | (rw [if_neg (by decide +kernel)]; exact ⟨rfl, rfl⟩))
    (fun os started H enc _ => lifted os started H enc)
end Go.Proofs.YtglhjdbnpdoinaaGreat.roomTakes
