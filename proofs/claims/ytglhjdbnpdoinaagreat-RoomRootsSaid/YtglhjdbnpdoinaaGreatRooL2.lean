/- Of every use, every node (no more, and no longer, than are looked at) and all limits: use with a root requirement more, and less, or why not, and what fits, are as the document says; no condition. -/
import Derived.Test.YtglhjdbnpdoinaaGreatRows
import Derived.Test.YtglhjdbnpdoinaaGreatRooN
import Derived.ProofKit
import Derived.OpenShut
import Derived.ShutString
import Derived.ChangeOld
namespace Go.Proofs.YtglhjdbnpdoinaaGreat.roomRoots
open Go.ChangeShapes Go.WideShapes Go.ChangeAt Go.RowKit
open Go.ChangeMaps (open_string shut_string)
set_option maxRecDepth 100000
set_option linter.unusedVariables false

set_option maxRecDepth 100000 in
set_option maxHeartbeats 6400000 in
theorem walk (M : Value) (u : Us) (Q : Value) (q : Nd) (V : Value) (l : Li) (w : World) (hM : UseIn w M u) (hQ : Q = .agg #[.string (mkB q.1), .string (mkB q.2)] ∧ fitsN q) (hV : LimIn V l) :
    Calls Tryz.prog 4 #[M, Q, V] w fun e w' => e = .returned (.bool true) ∧ Below w.heap.size w w' := by
  obtain ⟨⟨A, n, c, rfl, hk⟩, fm, fe, fs⟩ := hM
  obtain ⟨m, e, s0⟩ := u
  simp only at hk fm fe fs ⊢
  have hfw := fun w h => fewu_any m e A n c s0 w h fs
  have hsl := fewDs_len s0
  have hss := fewDs_small fs
  obtain ⟨s, hs⟩ : ∃ r, fewDs s0 = r := ⟨_, rfl⟩
  rw [hs] at hfw hsl hss
  obtain ⟨ns, hns⟩ : ∃ r, s.length = r := ⟨_, rfl⟩
  rw [hns] at hsl
  obtain ⟨rfl, fq⟩ := hQ
  obtain ⟨pq, vq⟩ := q
  simp only at fq ⊢
  have hsq := oneN_small (pq, vq)
  have hoq := fun w => one_any pq vq w fq.1 fq.2
  obtain ⟨q1, hq1⟩ : ∃ r, fewL pq = r := ⟨_, rfl⟩
  obtain ⟨q2, hq2⟩ : ∃ r, fewL vq = r := ⟨_, rfl⟩
  have hsq2 : smallN (q1, q2) := by rw [← hq1, ← hq2]; exact hsq
  try simp only at hoq
  rw [hq1, hq2] at hoq
  obtain ⟨rfl, fl1, fl2, fl3⟩ := hV
  obtain ⟨lt, lm, ln, le⟩ := l
  simp only at fl1 fl2 fl3 ⊢
  obtain ⟨W, gs, gq, gl, hW, hg, hg', hg'', r0, r1, r2, hb⟩ := boxUNL w (.int .i64 m) (.int .i64 e) (.slice A n c) (.string (mkB pq)) (.string (mkB vq)) (.int .i64 lt) (.int .i64 lm) (.int .i64 ln) (.int .i64 le) 24 26 43
  have SK0 := Lib.hid hk; have RS := Lib.hid r0; have RQ := Lib.hid r1; have RL := Lib.hid r2; have HFW := Lib.hid hfw; have HOQ := Lib.hid hoq; have HNS := Lib.hid hns; have HSS := Lib.hid hss; have HSQ := Lib.hid hsq2
  have HLS := Lib.hid (show w.heap.size ≤ gs by omega); have HLQ := Lib.hid (show w.heap.size ≤ gq by omega); have HQS := Lib.hid (show ¬ gq = gs by omega); have HLS2 := Lib.hid (show ¬ gl = gs by omega); have HLQ2 := Lib.hid (show ¬ gl = gq by omega)
  have BB := Lib.hid hb; have HW := Lib.hid hW; have HG := Lib.hid hg; have HG' := Lib.hid hg'; have HG'' := Lib.hid hg''
  clear hk r0 r1 r2 hfw hoq hns hss hsq hsq2 hb hW hg hg' hg'' hs hq1 hq2 fm fe fs fq fl1 fl2 fl3
  have e1 : ∀ args w, (callFunc 10 args).run Tryz.prog w = .ok (.enter 10 args) w := enters_of Tryz.func10 (by kernel_rfl) rfl
  have e2 : ∀ args w, (callFunc 11 args).run Tryz.prog w = .ok (.enter 11 args) w := enters_of Tryz.func11 (by kernel_rfl) rfl
  go_enter Tryz.func4, Tryz.ntmps4
  go_upto_region 1 with fail
  rw [HW.out, HG''.out, HG'.out, HG.out]
  refine rol_run (by kernel_rfl) [[], [0], [], [0, 1, 2], [0, 1, 2, 3], [0, 1, 2, 3, 4]] (by kernel_rfl) [16, 17, 18, 19] [[6], [0], [7], [2], [1, 6], [3, 7]] [0, 1, 0, 0, 3, 4, 3, 4, 6] [0, 0, 0, 0, 3, 4] [1000, 1000, 1000, 1000, 1000, 1000, 4, 5, 1000] [.val 16 (.agg #[.int .i64 m, .int .i64 e, .slice A n c]), .mem 17 (useG W.heap.size m e s), .val 18 (.agg #[.string (mkB pq), .string (mkB vq)]), .val 19 (.agg #[.string (mkB q1), .string (mkB q2)]), .mem 17 (boxUG gs 24), .box (gq) (.cells #[.string (mkB q1), .string (mkB q2)] 26), .box (gs) (.cells #[.int .i64 m, .int .i64 e, .slice A n c] 24), .box (gq) (.cells #[.string (mkB pq), .string (mkB vq)] 26), .box (gl) (.cells #[.int .i64 lt, .int .i64 lm, .int .i64 ln, .int .i64 le] 43)] (by kernel_rfl) ?_ (w.heap.size) (W.heap.size) rfl BB.out rfl (fun k => if k = gs then 3 else if k = gq then 4 else 6) ?_ ?_ ?_
  · intro j hj
    have hj3 : j < 9 := hj
    have hj2 : j = 0 ∨ j = 1 ∨ j = 2 ∨ j = 3 ∨ j = 4 ∨ j = 5 ∨ j = 6 ∨ j = 7 ∨ j = 8 := by omega
    clear hj hj3
    rcases hj2 with rfl | rfl | rfl | rfl | rfl | rfl | rfl | rfl | rfl
    · exact trivial
    · exact useG_near
    · exact trivial
    · exact trivial
    · exact boxUG_near
    · exact trivial
    · exact trivial
    · exact trivial
    · exact trivial
  · intro j hj0 hj
    have hj1 : 6 ≤ j := hj0
    have hj3 : j < 9 := hj
    have hj2 : j = 6 ∨ j = 7 ∨ j = 8 := by omega
    clear hj0 hj hj1 hj3
    rcases hj2 with rfl | rfl | rfl
    · exact ⟨RS.out, if_pos rfl⟩
    · exact ⟨RQ.out, (if_neg HQS.out).trans (if_pos rfl)⟩
    · exact ⟨RL.out, (if_neg HLS2.out).trans (if_neg HLQ2.out)⟩
  · intro i hi a wx who hG hF
    have hz : a.tmps.size = 153 := hG.size
    have hi3 : i < 6 := hi
    have hi2 : i = 0 ∨ i = 1 ∨ i = 2 ∨ i = 3 ∨ i = 4 ∨ i = 5 := by omega
    clear hi hi3
    rcases hi2 with rfl | rfl | rfl | rfl | rfl | rfl
    · exact rol_val rfl rfl rfl (by rw [hz]; decide) (ex_load rfl (eval_slot ((hG.slots 3 (by decide)).trans rfl)) (ld_use (hF 6 (by decide)).1)) hG.below
    · refine rol_calls rfl rfl rfl (by rw [hz]; decide) (ex_call rfl (by simp [eval_slot (hF 0 (by decide))]) e1) (HFW.out wx (SK0.out.below hG.below)) ?_ hG.below (Nat.le_trans BB.out.size hG.new)
      rintro e w1 ⟨u, rfl, hown, hb1⟩
      exact ⟨_, rfl, hb1, .inr (.inl ⟨_, u.ownBlock, rfl, fun b e => hown.lt b e, u, rfl, row_base hown hG.new, rfl⟩)⟩
    · exact rol_val rfl rfl rfl (by rw [hz]; decide) (ex_load rfl (eval_slot ((hG.slots 4 (by decide)).trans rfl)) (ld_node (row2 (hF 7 (by decide)).1).1 (row2 (hF 7 (by decide)).1).2.1)) hG.below
    · refine rol_calls rfl rfl rfl (by rw [hz]; decide) (ex_call rfl (by simp [eval_slot (hF 2 (by decide))]) e2) (HOQ.out wx) ?_ hG.below (Nat.le_trans BB.out.size hG.new)
      rintro e w1 ⟨rfl, hb1⟩
      exact ⟨_, rfl, hb1, .inl rfl⟩
    · exact rol_boxU rfl rfl rfl rfl (eval_slot ((hG.slots 3 (by decide)).trans rfl)) (hF 1 (by decide)) (hF 6 (by decide)) hG.below HLS.out
    · exact rol_boxN rfl rfl rfl rfl (eval_slot ((hG.slots 4 (by decide)).trans rfl)) (eval_slot (hF 3 (by decide))) (hF 7 (by decide)) hG.below HLQ.out
  · intro a wx who hG hF
    obtain ⟨v17, ob17, fv17, fo17, fp17⟩ := hF 1 (of_decide_eq_true (by kernel_rfl)) (of_decide_eq_true (by kernel_rfl))
    replace fv17 : a.tmps.getD 17 undef = v17 := eval_slot (s := 17) fv17
    have hbox := hF 4 (of_decide_eq_true (by kernel_rfl)) (of_decide_eq_true (by kernel_rfl))
    have hbq := hF 5 (of_decide_eq_true (by kernel_rfl)) (of_decide_eq_true (by kernel_rfl))
    have hbl := hF 8 (of_decide_eq_true (by kernel_rfl)) (of_decide_eq_true (by kernel_rfl))
    obtain ⟨p11, ob11, hp11, -, -, x11, y11, z11, hv11, hrow11⟩ := hbox
    have e11 : v17 = p11 := fv17.symm.trans (eval_slot hp11)
    subst e11
    clear hp11 ob11
    replace hbq := hbq.1
    replace hbl := hbl.1
    have hbx := hG.below
    have hnx := hG.new
    rw [hG.frame]
    simp only [List.foldl_cons, List.foldl_nil, List.setIfInBounds_toArray, List.set_cons_zero, List.set_cons_succ]
    generalize a.tmps.getD 16 undef = u16
    rw [fv17]
    generalize a.tmps.getD 18 undef = u18
    generalize a.tmps.getD 19 undef = u19
    clear hF hG fv17
    obtain ⟨x12, hx12, hrow, -⟩ := fp17
    obtain ⟨aS, cS, rfl, hd⟩ := dfsO hrow
    rw [hv11] at hx12
    injection hx12 with hx12
    injection hx12 with hx12
    injection hx12 with r1 hx12
    injection hx12 with r2 hx12
    injection hx12 with r3 _
    subst r1 r2 r3 hv11
    rw [HNS.out] at hd hrow11 ⊢
    obtain ⟨s0, s1, s2, -⟩ := row3 hrow11
    obtain ⟨qx0, qx1, -, -⟩ := row2 hbq
    have SS := Lib.hid hd
    obtain ⟨l0, l1, l2, l3⟩ := row4f hbl
    replace BB := Lib.hid hbx
    clear fo17 hrow hrow11 hbq hd hbx hnx SK0 RS RQ HFW HOQ hbl RL
    have ka := fun w h => rooton_any m e aS ns cS s q1 q2 w h HSS.out HSQ.out (by rw [HNS.out]; omega)
    have kb := fun w h => rootoff_any m e aS ns cS s q1 q2 w h HSS.out HSQ.out (by rw [HNS.out]; omega)
    have kf := fun w h => fits_any lt lm ln le m e aS ns cS s w h HSS.out (by rw [HNS.out]; omega)
    have km := fun w h => refumay_any m e aS ns cS s w h HSS.out
    cases ho : okU m e s
    · have hno : (Us.ok ⟨m, e, s⟩ && (allN2 [] && allN2 [(q1, q2)])) = false := by rw [show Us.ok ⟨m, e, s⟩ = false from ho]; rfl
      have hno2 : (Us.ok ⟨m, e, s⟩ && (allN2 [(q1, q2)] && allN2 [])) = false := by rw [show Us.ok ⟨m, e, s⟩ = false from ho]; rfl
      rw [chgE_no hno] at ka
      rw [chgE_no hno2] at kb
      rw [fitE_no (show Us.ok ⟨m, e, s⟩ = false from ho)] at kf
      rw [ho] at km
      simp only at ka kb
      clear hno hno2 ho
      have KA := Lib.hid ka; have KB := Lib.hid kb; have KF := Lib.hid kf; have KM := Lib.hid km
      clear ka kb kf km
      go_upto_region 3 with (go_at_call 22; refine (KA.out _ SS.out).mono ?_; rintro e w1 ⟨v1, rfl, hrow, hb1⟩; obtain ⟨pA, cA, rfl, hd⟩ := dfsO hrow; rw [HNS.out] at hd ⊢; have SA := Lib.hid hd; replace s0 := cell_keep s0 hb1; replace s1 := cell_keep s1 hb1; replace s2 := cell_keep s2 hb1; replace qx0 := cell_keep qx0 hb1; replace qx1 := cell_keep qx1 hb1; replace l0 := cell_keep l0 hb1; replace l1 := cell_keep l1 hb1; replace l2 := cell_keep l2 hb1; replace l3 := cell_keep l3 hb1; replace SS := Lib.hid (SS.out.below hb1); replace BB := Lib.hid (below_step BB.out hb1); clear hrow hd hb1 KA)
      obtain ⟨WA, gA, hW2, hg2, hr2, hb1⟩ := boxU w1 (.int .i64 m) (.int .i64 e) (.slice pA ns cA) 24
      rw [hW2, hg2]
      replace s0 := cell_keep s0 hb1; replace s1 := cell_keep s1 hb1; replace s2 := cell_keep s2 hb1; replace qx0 := cell_keep qx0 hb1; replace qx1 := cell_keep qx1 hb1; replace l0 := cell_keep l0 hb1; replace l1 := cell_keep l1 hb1; replace l2 := cell_keep l2 hb1; replace l3 := cell_keep l3 hb1; replace SS := Lib.hid (SS.out.below hb1); replace SA := Lib.hid (SA.out.below hb1); replace BB := Lib.hid (below_step BB.out hb1)
      obtain ⟨a0, a1, a2, -⟩ := row3 hr2
      clear hW2 hg2 hr2 hb1
      go_upto_region 4 with (go_at_call 22; refine (KB.out _ SS.out).mono ?_; rintro e w1 ⟨v1, rfl, hrow, hb1⟩; obtain ⟨pB, cB, rfl, hd⟩ := dfsO hrow; rw [HNS.out] at hd ⊢; have SB := Lib.hid hd; replace s0 := cell_keep s0 hb1; replace s1 := cell_keep s1 hb1; replace s2 := cell_keep s2 hb1; replace qx0 := cell_keep qx0 hb1; replace qx1 := cell_keep qx1 hb1; replace l0 := cell_keep l0 hb1; replace l1 := cell_keep l1 hb1; replace l2 := cell_keep l2 hb1; replace l3 := cell_keep l3 hb1; replace a0 := cell_keep a0 hb1; replace a1 := cell_keep a1 hb1; replace a2 := cell_keep a2 hb1; replace SS := Lib.hid (SS.out.below hb1); replace SA := Lib.hid (SA.out.below hb1); replace BB := Lib.hid (below_step BB.out hb1); clear hrow hd hb1 KB)
      obtain ⟨WB, gB, hW2, hg2, hr2, hb1⟩ := boxU w1 (.int .i64 m) (.int .i64 e) (.slice pB ns cB) 24
      rw [hW2, hg2]
      replace s0 := cell_keep s0 hb1; replace s1 := cell_keep s1 hb1; replace s2 := cell_keep s2 hb1; replace qx0 := cell_keep qx0 hb1; replace qx1 := cell_keep qx1 hb1; replace l0 := cell_keep l0 hb1; replace l1 := cell_keep l1 hb1; replace l2 := cell_keep l2 hb1; replace l3 := cell_keep l3 hb1; replace a0 := cell_keep a0 hb1; replace a1 := cell_keep a1 hb1; replace a2 := cell_keep a2 hb1; replace SS := Lib.hid (SS.out.below hb1); replace SA := Lib.hid (SA.out.below hb1); replace SB := Lib.hid (SB.out.below hb1); replace BB := Lib.hid (below_step BB.out hb1)
      obtain ⟨b0, b1, b2, -⟩ := row3 hr2
      clear hW2 hg2 hr2 hb1
      go_wp2_with (first
          | (go_at_call 23; refine (KF.out _ SS.out).mono ?_; rintro e w9 ⟨rfl, hb1⟩; replace s0 := cell_keep s0 hb1; replace s1 := cell_keep s1 hb1; replace s2 := cell_keep s2 hb1; replace qx0 := cell_keep qx0 hb1; replace qx1 := cell_keep qx1 hb1; replace l0 := cell_keep l0 hb1; replace l1 := cell_keep l1 hb1; replace l2 := cell_keep l2 hb1; replace l3 := cell_keep l3 hb1; replace a0 := cell_keep a0 hb1; replace a1 := cell_keep a1 hb1; replace a2 := cell_keep a2 hb1; replace b0 := cell_keep b0 hb1; replace b1 := cell_keep b1 hb1; replace b2 := cell_keep b2 hb1; replace SS := Lib.hid (SS.out.below hb1); replace SA := Lib.hid (SA.out.below hb1); replace SB := Lib.hid (SB.out.below hb1); replace BB := Lib.hid (below_step BB.out hb1); clear hb1 )
          | (go_at_call 16; refine (KM.out _ SS.out).mono ?_; rintro e w9 ⟨rfl, hb1⟩; replace s0 := cell_keep s0 hb1; replace s1 := cell_keep s1 hb1; replace s2 := cell_keep s2 hb1; replace qx0 := cell_keep qx0 hb1; replace qx1 := cell_keep qx1 hb1; replace l0 := cell_keep l0 hb1; replace l1 := cell_keep l1 hb1; replace l2 := cell_keep l2 hb1; replace l3 := cell_keep l3 hb1; replace a0 := cell_keep a0 hb1; replace a1 := cell_keep a1 hb1; replace a2 := cell_keep a2 hb1; replace b0 := cell_keep b0 hb1; replace b1 := cell_keep b1 hb1; replace b2 := cell_keep b2 hb1; replace SS := Lib.hid (SS.out.below hb1); replace SA := Lib.hid (SA.out.below hb1); replace SB := Lib.hid (SB.out.below hb1); replace BB := Lib.hid (below_step BB.out hb1); clear hb1 )
          | (go_at_call 18; refine (refusame_any _ _ _ _ _ _ _ _ _ _ _ _ _ (by first | exact SA.out | exact SB.out) (by first | exact SS.out)).mono ?_; rintro e w9 ⟨rfl, hb1⟩; rw [sameU_self]; replace s0 := cell_keep s0 hb1; replace s1 := cell_keep s1 hb1; replace s2 := cell_keep s2 hb1; replace qx0 := cell_keep qx0 hb1; replace qx1 := cell_keep qx1 hb1; replace l0 := cell_keep l0 hb1; replace l1 := cell_keep l1 hb1; replace l2 := cell_keep l2 hb1; replace l3 := cell_keep l3 hb1; replace a0 := cell_keep a0 hb1; replace a1 := cell_keep a1 hb1; replace a2 := cell_keep a2 hb1; replace b0 := cell_keep b0 hb1; replace b1 := cell_keep b1 hb1; replace b2 := cell_keep b2 hb1; replace SS := Lib.hid (SS.out.below hb1); replace SA := Lib.hid (SA.out.below hb1); replace SB := Lib.hid (SB.out.below hb1); replace BB := Lib.hid (below_step BB.out hb1); clear hb1 )
          | (go_at_call 20; refine (rawake_any _).mono ?_; rintro e w9 ⟨rfl, hb1⟩; replace s0 := cell_keep s0 hb1; replace s1 := cell_keep s1 hb1; replace s2 := cell_keep s2 hb1; replace qx0 := cell_keep qx0 hb1; replace qx1 := cell_keep qx1 hb1; replace l0 := cell_keep l0 hb1; replace l1 := cell_keep l1 hb1; replace l2 := cell_keep l2 hb1; replace l3 := cell_keep l3 hb1; replace a0 := cell_keep a0 hb1; replace a1 := cell_keep a1 hb1; replace a2 := cell_keep a2 hb1; replace b0 := cell_keep b0 hb1; replace b1 := cell_keep b1 hb1; replace b2 := cell_keep b2 hb1; replace SS := Lib.hid (SS.out.below hb1); replace SA := Lib.hid (SA.out.below hb1); replace SB := Lib.hid (SB.out.below hb1); replace BB := Lib.hid (below_step BB.out hb1); clear hb1))
      go_ret
      exact ⟨rfl, BB.out⟩
    · have kr := fun w h => refufits_any lt lm ln le m e aS ns cS s w h
      rw [fitE_yes (show Us.ok ⟨m, e, s⟩ = true from ho)] at kf
      obtain ⟨zf, hzf⟩ : ∃ z, fitU ⟨lt, lm, ln, le⟩ ⟨m, e, s⟩ = z := ⟨_, rfl⟩
      rw [hzf] at kf kr
      have hzz : (zf != zf) = false := by simp
      clear hzf
      cases hp : okN (q1, q2)
      · have hno : (Us.ok ⟨m, e, s⟩ && (allN2 [] && allN2 [(q1, q2)])) = false := by have : allN2 [(q1, q2)] = false := (by unfold allN2; simp [hp]); rw [this]; simp
        have hno2 : (Us.ok ⟨m, e, s⟩ && (allN2 [(q1, q2)] && allN2 [])) = false := by have : allN2 [(q1, q2)] = false := (by unfold allN2; simp [hp]); rw [this]; simp
        rw [chgE_no hno] at ka
        rw [chgE_no hno2] at kb
        rw [ho] at km
        simp only at ka kb
        have HO := Lib.hid hp
        have KR := Lib.hid kr
        clear hno hno2 ho hp kr
        have KA := Lib.hid ka; have KB := Lib.hid kb; have KF := Lib.hid kf; have KM := Lib.hid km
        clear ka kb kf km
        go_upto_region 3 with (go_at_call 22; refine (KA.out _ SS.out).mono ?_; rintro e w1 ⟨v1, rfl, hrow, hb1⟩; obtain ⟨pA, cA, rfl, hd⟩ := dfsO hrow; rw [HNS.out] at hd ⊢; have SA := Lib.hid hd; replace s0 := cell_keep s0 hb1; replace s1 := cell_keep s1 hb1; replace s2 := cell_keep s2 hb1; replace qx0 := cell_keep qx0 hb1; replace qx1 := cell_keep qx1 hb1; replace l0 := cell_keep l0 hb1; replace l1 := cell_keep l1 hb1; replace l2 := cell_keep l2 hb1; replace l3 := cell_keep l3 hb1; replace SS := Lib.hid (SS.out.below hb1); replace BB := Lib.hid (below_step BB.out hb1); clear hrow hd hb1 KA)
        obtain ⟨WA, gA, hW2, hg2, hr2, hb1⟩ := boxU w1 (.int .i64 m) (.int .i64 e) (.slice pA ns cA) 24
        rw [hW2, hg2]
        replace s0 := cell_keep s0 hb1; replace s1 := cell_keep s1 hb1; replace s2 := cell_keep s2 hb1; replace qx0 := cell_keep qx0 hb1; replace qx1 := cell_keep qx1 hb1; replace l0 := cell_keep l0 hb1; replace l1 := cell_keep l1 hb1; replace l2 := cell_keep l2 hb1; replace l3 := cell_keep l3 hb1; replace SS := Lib.hid (SS.out.below hb1); replace SA := Lib.hid (SA.out.below hb1); replace BB := Lib.hid (below_step BB.out hb1)
        obtain ⟨a0, a1, a2, -⟩ := row3 hr2
        clear hW2 hg2 hr2 hb1
        go_upto_region 4 with (go_at_call 22; refine (KB.out _ SS.out).mono ?_; rintro e w1 ⟨v1, rfl, hrow, hb1⟩; obtain ⟨pB, cB, rfl, hd⟩ := dfsO hrow; rw [HNS.out] at hd ⊢; have SB := Lib.hid hd; replace s0 := cell_keep s0 hb1; replace s1 := cell_keep s1 hb1; replace s2 := cell_keep s2 hb1; replace qx0 := cell_keep qx0 hb1; replace qx1 := cell_keep qx1 hb1; replace l0 := cell_keep l0 hb1; replace l1 := cell_keep l1 hb1; replace l2 := cell_keep l2 hb1; replace l3 := cell_keep l3 hb1; replace a0 := cell_keep a0 hb1; replace a1 := cell_keep a1 hb1; replace a2 := cell_keep a2 hb1; replace SS := Lib.hid (SS.out.below hb1); replace SA := Lib.hid (SA.out.below hb1); replace BB := Lib.hid (below_step BB.out hb1); clear hrow hd hb1 KB)
        obtain ⟨WB, gB, hW2, hg2, hr2, hb1⟩ := boxU w1 (.int .i64 m) (.int .i64 e) (.slice pB ns cB) 24
        rw [hW2, hg2]
        replace s0 := cell_keep s0 hb1; replace s1 := cell_keep s1 hb1; replace s2 := cell_keep s2 hb1; replace qx0 := cell_keep qx0 hb1; replace qx1 := cell_keep qx1 hb1; replace l0 := cell_keep l0 hb1; replace l1 := cell_keep l1 hb1; replace l2 := cell_keep l2 hb1; replace l3 := cell_keep l3 hb1; replace a0 := cell_keep a0 hb1; replace a1 := cell_keep a1 hb1; replace a2 := cell_keep a2 hb1; replace SS := Lib.hid (SS.out.below hb1); replace SA := Lib.hid (SA.out.below hb1); replace SB := Lib.hid (SB.out.below hb1); replace BB := Lib.hid (below_step BB.out hb1)
        obtain ⟨b0, b1, b2, -⟩ := row3 hr2
        clear hW2 hg2 hr2 hb1
        go_wp2_with (first
            | (go_at_call 23; refine (KF.out _ SS.out).mono ?_; rintro e w9 ⟨rfl, hb1⟩; replace s0 := cell_keep s0 hb1; replace s1 := cell_keep s1 hb1; replace s2 := cell_keep s2 hb1; replace qx0 := cell_keep qx0 hb1; replace qx1 := cell_keep qx1 hb1; replace l0 := cell_keep l0 hb1; replace l1 := cell_keep l1 hb1; replace l2 := cell_keep l2 hb1; replace l3 := cell_keep l3 hb1; replace a0 := cell_keep a0 hb1; replace a1 := cell_keep a1 hb1; replace a2 := cell_keep a2 hb1; replace b0 := cell_keep b0 hb1; replace b1 := cell_keep b1 hb1; replace b2 := cell_keep b2 hb1; replace SS := Lib.hid (SS.out.below hb1); replace SA := Lib.hid (SA.out.below hb1); replace SB := Lib.hid (SB.out.below hb1); replace BB := Lib.hid (below_step BB.out hb1); clear hb1 )
            | (go_at_call 16; refine (KM.out _ SS.out).mono ?_; rintro e w9 ⟨rfl, hb1⟩; replace s0 := cell_keep s0 hb1; replace s1 := cell_keep s1 hb1; replace s2 := cell_keep s2 hb1; replace qx0 := cell_keep qx0 hb1; replace qx1 := cell_keep qx1 hb1; replace l0 := cell_keep l0 hb1; replace l1 := cell_keep l1 hb1; replace l2 := cell_keep l2 hb1; replace l3 := cell_keep l3 hb1; replace a0 := cell_keep a0 hb1; replace a1 := cell_keep a1 hb1; replace a2 := cell_keep a2 hb1; replace b0 := cell_keep b0 hb1; replace b1 := cell_keep b1 hb1; replace b2 := cell_keep b2 hb1; replace SS := Lib.hid (SS.out.below hb1); replace SA := Lib.hid (SA.out.below hb1); replace SB := Lib.hid (SB.out.below hb1); replace BB := Lib.hid (below_step BB.out hb1); clear hb1 )
            | (go_at_call 24; refine (KR.out _ SS.out).mono ?_; rintro e w9 ⟨rfl, hb1⟩; replace s0 := cell_keep s0 hb1; replace s1 := cell_keep s1 hb1; replace s2 := cell_keep s2 hb1; replace qx0 := cell_keep qx0 hb1; replace qx1 := cell_keep qx1 hb1; replace l0 := cell_keep l0 hb1; replace l1 := cell_keep l1 hb1; replace l2 := cell_keep l2 hb1; replace l3 := cell_keep l3 hb1; replace a0 := cell_keep a0 hb1; replace a1 := cell_keep a1 hb1; replace a2 := cell_keep a2 hb1; replace b0 := cell_keep b0 hb1; replace b1 := cell_keep b1 hb1; replace b2 := cell_keep b2 hb1; replace SS := Lib.hid (SS.out.below hb1); replace SA := Lib.hid (SA.out.below hb1); replace SB := Lib.hid (SB.out.below hb1); replace BB := Lib.hid (below_step BB.out hb1); clear hb1 )
            | (go_at_call 25; refine (refnmay_any q1 q2 _ HSQ.out.1 HSQ.out.2).mono ?_; rintro e w9 ⟨rfl, hb1⟩; rw [HO.out]; replace s0 := cell_keep s0 hb1; replace s1 := cell_keep s1 hb1; replace s2 := cell_keep s2 hb1; replace qx0 := cell_keep qx0 hb1; replace qx1 := cell_keep qx1 hb1; replace l0 := cell_keep l0 hb1; replace l1 := cell_keep l1 hb1; replace l2 := cell_keep l2 hb1; replace l3 := cell_keep l3 hb1; replace a0 := cell_keep a0 hb1; replace a1 := cell_keep a1 hb1; replace a2 := cell_keep a2 hb1; replace b0 := cell_keep b0 hb1; replace b1 := cell_keep b1 hb1; replace b2 := cell_keep b2 hb1; replace SS := Lib.hid (SS.out.below hb1); replace SA := Lib.hid (SA.out.below hb1); replace SB := Lib.hid (SB.out.below hb1); replace BB := Lib.hid (below_step BB.out hb1); clear hb1 )
            | (go_at_call 18; refine (refusame_any _ _ _ _ _ _ _ _ _ _ _ _ _ (by first | exact SA.out | exact SB.out) (by first | exact SS.out)).mono ?_; rintro e w9 ⟨rfl, hb1⟩; rw [sameU_self]; replace s0 := cell_keep s0 hb1; replace s1 := cell_keep s1 hb1; replace s2 := cell_keep s2 hb1; replace qx0 := cell_keep qx0 hb1; replace qx1 := cell_keep qx1 hb1; replace l0 := cell_keep l0 hb1; replace l1 := cell_keep l1 hb1; replace l2 := cell_keep l2 hb1; replace l3 := cell_keep l3 hb1; replace a0 := cell_keep a0 hb1; replace a1 := cell_keep a1 hb1; replace a2 := cell_keep a2 hb1; replace b0 := cell_keep b0 hb1; replace b1 := cell_keep b1 hb1; replace b2 := cell_keep b2 hb1; replace SS := Lib.hid (SS.out.below hb1); replace SA := Lib.hid (SA.out.below hb1); replace SB := Lib.hid (SB.out.below hb1); replace BB := Lib.hid (below_step BB.out hb1); clear hb1 )
            | (go_at_call 20; refine (rawake_any _).mono ?_; rintro e w9 ⟨rfl, hb1⟩; replace s0 := cell_keep s0 hb1; replace s1 := cell_keep s1 hb1; replace s2 := cell_keep s2 hb1; replace qx0 := cell_keep qx0 hb1; replace qx1 := cell_keep qx1 hb1; replace l0 := cell_keep l0 hb1; replace l1 := cell_keep l1 hb1; replace l2 := cell_keep l2 hb1; replace l3 := cell_keep l3 hb1; replace a0 := cell_keep a0 hb1; replace a1 := cell_keep a1 hb1; replace a2 := cell_keep a2 hb1; replace b0 := cell_keep b0 hb1; replace b1 := cell_keep b1 hb1; replace b2 := cell_keep b2 hb1; replace SS := Lib.hid (SS.out.below hb1); replace SA := Lib.hid (SA.out.below hb1); replace SB := Lib.hid (SB.out.below hb1); replace BB := Lib.hid (below_step BB.out hb1); clear hb1))
        go_ret
        exact ⟨rfl, BB.out⟩
      · have hsl2 : s.length ≤ 500 := by rw [HNS.out]; omega
        have o1 : ∀ x ∈ [(q1, q2)], okN x = true := fun x hx => by rw [List.mem_singleton.1 hx]; exact hp
        have s1' : ∀ x ∈ [(q1, q2)], smallN x := fun x hx => by rw [List.mem_singleton.1 hx]; exact HSQ.out
        have kx := fun V w h h' => chmore_any m e 0 1 aS ns cS s V [(q1, q2)] w h h' HSS.out s1' o1 ho hsl2 (by simp) (by omega) (by omega)
        have ky := fun V w h h' => chless_any m e 0 1 aS ns cS s V [(q1, q2)] w h h' HSS.out s1' o1 ho hsl2 (by simp) (by omega) (by omega)
        have hy1 : (Us.ok ⟨m, e, s⟩ && (allN2 [] && allN2 [(q1, q2)])) = true := by rw [show Us.ok ⟨m, e, s⟩ = true from ho, allN2_iff.2 o1]; rfl
        have hy2 : (Us.ok ⟨m, e, s⟩ && (allN2 [(q1, q2)] && allN2 [])) = true := by rw [show Us.ok ⟨m, e, s⟩ = true from ho, allN2_iff.2 o1]; rfl
        have t1 : toU ⟨m, e, s⟩ 0 [] [(q1, q2)] = ⟨m, e + 1, mergeD s (difL [] [(q1, q2)])⟩ := by unfold toU; simp
        have t2 : toU ⟨m, e, s⟩ 0 [(q1, q2)] [] = ⟨m, e + -1, mergeD s (difL [(q1, q2)] [])⟩ := by unfold toU; simp
        have a1 := chgE_yes (k := 0) hy1
        have a2 := chgE_far (k := 0) hy1
        have b1 := chgE_yes (k := 0) hy2
        have b2 := chgE_far (k := 0) hy2
        rw [t1] at a1 a2
        rw [t2] at b1 b2
        rw [if_pos rfl] at a2
        rw [if_neg (by simp)] at b2
        rw [Int.add_zero, show e + 1 * 1 = e + 1 by omega] at kx
        rw [Int.add_zero, show e + -1 * 1 = e + -1 by omega] at ky
        obtain ⟨X, hX⟩ : ∃ X, mergeD s (difL [] [(q1, q2)]) = X := ⟨_, rfl⟩
        obtain ⟨Y, hY⟩ : ∃ X, mergeD s (difL [(q1, q2)] []) = X := ⟨_, rfl⟩
        rw [hX] at kx a1 a2
        rw [hY] at ky b1 b2
        obtain ⟨ex, hex⟩ : ∃ z, e + 1 = z := ⟨_, rfl⟩
        obtain ⟨ey, hey⟩ : ∃ z, e + -1 = z := ⟨_, rfl⟩
        rw [hex] at kx a1 a2
        rw [hey] at ky b1 b2
        rw [ho] at km
        obtain ⟨nx, hnx⟩ : ∃ z, X.length = z := ⟨_, rfl⟩
        obtain ⟨ny, hny⟩ : ∃ z, Y.length = z := ⟨_, rfl⟩
        have HNX := Lib.hid hnx; have HNY := Lib.hid hny
        have HO := Lib.hid hp; have KX := Lib.hid kx; have KY := Lib.hid ky; have KR := Lib.hid kr
        clear hX hY hex hey hnx hny hy1 hy2 t1 t2 o1 s1' hsl2 kx ky hp ho kr
        cases hx : okU m ex X
        · cases hy : okU m ey Y
          · rw [a2 hx] at ka
            rw [b2 hy] at kb
            simp only at ka kb
            rw [hx] at KX
            rw [hy] at KY
            clear a1 a2 b1 b2 hx hy
            have KA := Lib.hid ka; have KB := Lib.hid kb; have KF := Lib.hid kf; have KM := Lib.hid km
            clear ka kb kf km
            go_upto_region 3 with (go_at_call 22; refine (KA.out _ SS.out).mono ?_; rintro e w1 ⟨v1, rfl, hrow, hb1⟩; obtain ⟨pA, cA, rfl, hd⟩ := dfsO hrow; rw [HNS.out] at hd ⊢; have SA := Lib.hid hd; replace s0 := cell_keep s0 hb1; replace s1 := cell_keep s1 hb1; replace s2 := cell_keep s2 hb1; replace qx0 := cell_keep qx0 hb1; replace qx1 := cell_keep qx1 hb1; replace l0 := cell_keep l0 hb1; replace l1 := cell_keep l1 hb1; replace l2 := cell_keep l2 hb1; replace l3 := cell_keep l3 hb1; replace SS := Lib.hid (SS.out.below hb1); replace BB := Lib.hid (below_step BB.out hb1); clear hrow hd hb1 KA)
            obtain ⟨WA, gA, hW2, hg2, hr2, hb1⟩ := boxU w1 (.int .i64 m) (.int .i64 e) (.slice pA ns cA) 24
            rw [hW2, hg2]
            replace s0 := cell_keep s0 hb1; replace s1 := cell_keep s1 hb1; replace s2 := cell_keep s2 hb1; replace qx0 := cell_keep qx0 hb1; replace qx1 := cell_keep qx1 hb1; replace l0 := cell_keep l0 hb1; replace l1 := cell_keep l1 hb1; replace l2 := cell_keep l2 hb1; replace l3 := cell_keep l3 hb1; replace SS := Lib.hid (SS.out.below hb1); replace SA := Lib.hid (SA.out.below hb1); replace BB := Lib.hid (below_step BB.out hb1)
            obtain ⟨a0, a1, a2, -⟩ := row3 hr2
            clear hW2 hg2 hr2 hb1
            go_upto_region 4 with (go_at_call 22; refine (KB.out _ SS.out).mono ?_; rintro e w1 ⟨v1, rfl, hrow, hb1⟩; obtain ⟨pB, cB, rfl, hd⟩ := dfsO hrow; rw [HNS.out] at hd ⊢; have SB := Lib.hid hd; replace s0 := cell_keep s0 hb1; replace s1 := cell_keep s1 hb1; replace s2 := cell_keep s2 hb1; replace qx0 := cell_keep qx0 hb1; replace qx1 := cell_keep qx1 hb1; replace l0 := cell_keep l0 hb1; replace l1 := cell_keep l1 hb1; replace l2 := cell_keep l2 hb1; replace l3 := cell_keep l3 hb1; replace a0 := cell_keep a0 hb1; replace a1 := cell_keep a1 hb1; replace a2 := cell_keep a2 hb1; replace SS := Lib.hid (SS.out.below hb1); replace SA := Lib.hid (SA.out.below hb1); replace BB := Lib.hid (below_step BB.out hb1); clear hrow hd hb1 KB)
            obtain ⟨WB, gB, hW2, hg2, hr2, hb1⟩ := boxU w1 (.int .i64 m) (.int .i64 e) (.slice pB ns cB) 24
            rw [hW2, hg2]
            replace s0 := cell_keep s0 hb1; replace s1 := cell_keep s1 hb1; replace s2 := cell_keep s2 hb1; replace qx0 := cell_keep qx0 hb1; replace qx1 := cell_keep qx1 hb1; replace l0 := cell_keep l0 hb1; replace l1 := cell_keep l1 hb1; replace l2 := cell_keep l2 hb1; replace l3 := cell_keep l3 hb1; replace a0 := cell_keep a0 hb1; replace a1 := cell_keep a1 hb1; replace a2 := cell_keep a2 hb1; replace SS := Lib.hid (SS.out.below hb1); replace SA := Lib.hid (SA.out.below hb1); replace SB := Lib.hid (SB.out.below hb1); replace BB := Lib.hid (below_step BB.out hb1)
            obtain ⟨b0, b1, b2, -⟩ := row3 hr2
            clear hW2 hg2 hr2 hb1
            go_upto_region 11 with (first
                | (go_at_call 23; refine (KF.out _ SS.out).mono ?_; rintro e w9 ⟨rfl, hb1⟩; replace s0 := cell_keep s0 hb1; replace s1 := cell_keep s1 hb1; replace s2 := cell_keep s2 hb1; replace qx0 := cell_keep qx0 hb1; replace qx1 := cell_keep qx1 hb1; replace l0 := cell_keep l0 hb1; replace l1 := cell_keep l1 hb1; replace l2 := cell_keep l2 hb1; replace l3 := cell_keep l3 hb1; replace a0 := cell_keep a0 hb1; replace a1 := cell_keep a1 hb1; replace a2 := cell_keep a2 hb1; replace b0 := cell_keep b0 hb1; replace b1 := cell_keep b1 hb1; replace b2 := cell_keep b2 hb1; replace SS := Lib.hid (SS.out.below hb1); replace SA := Lib.hid (SA.out.below hb1); replace SB := Lib.hid (SB.out.below hb1); replace BB := Lib.hid (below_step BB.out hb1); clear hb1 )
                | (go_at_call 16; refine (KM.out _ SS.out).mono ?_; rintro e w9 ⟨rfl, hb1⟩; replace s0 := cell_keep s0 hb1; replace s1 := cell_keep s1 hb1; replace s2 := cell_keep s2 hb1; replace qx0 := cell_keep qx0 hb1; replace qx1 := cell_keep qx1 hb1; replace l0 := cell_keep l0 hb1; replace l1 := cell_keep l1 hb1; replace l2 := cell_keep l2 hb1; replace l3 := cell_keep l3 hb1; replace a0 := cell_keep a0 hb1; replace a1 := cell_keep a1 hb1; replace a2 := cell_keep a2 hb1; replace b0 := cell_keep b0 hb1; replace b1 := cell_keep b1 hb1; replace b2 := cell_keep b2 hb1; replace SS := Lib.hid (SS.out.below hb1); replace SA := Lib.hid (SA.out.below hb1); replace SB := Lib.hid (SB.out.below hb1); replace BB := Lib.hid (below_step BB.out hb1); clear hb1 )
                | (go_at_call 24; refine (KR.out _ SS.out).mono ?_; rintro e w9 ⟨rfl, hb1⟩; replace s0 := cell_keep s0 hb1; replace s1 := cell_keep s1 hb1; replace s2 := cell_keep s2 hb1; replace qx0 := cell_keep qx0 hb1; replace qx1 := cell_keep qx1 hb1; replace l0 := cell_keep l0 hb1; replace l1 := cell_keep l1 hb1; replace l2 := cell_keep l2 hb1; replace l3 := cell_keep l3 hb1; replace a0 := cell_keep a0 hb1; replace a1 := cell_keep a1 hb1; replace a2 := cell_keep a2 hb1; replace b0 := cell_keep b0 hb1; replace b1 := cell_keep b1 hb1; replace b2 := cell_keep b2 hb1; replace SS := Lib.hid (SS.out.below hb1); replace SA := Lib.hid (SA.out.below hb1); replace SB := Lib.hid (SB.out.below hb1); replace BB := Lib.hid (below_step BB.out hb1); clear hb1 )
                | (go_at_call 25; refine (refnmay_any q1 q2 _ HSQ.out.1 HSQ.out.2).mono ?_; rintro e w9 ⟨rfl, hb1⟩; rw [HO.out]; replace s0 := cell_keep s0 hb1; replace s1 := cell_keep s1 hb1; replace s2 := cell_keep s2 hb1; replace qx0 := cell_keep qx0 hb1; replace qx1 := cell_keep qx1 hb1; replace l0 := cell_keep l0 hb1; replace l1 := cell_keep l1 hb1; replace l2 := cell_keep l2 hb1; replace l3 := cell_keep l3 hb1; replace a0 := cell_keep a0 hb1; replace a1 := cell_keep a1 hb1; replace a2 := cell_keep a2 hb1; replace b0 := cell_keep b0 hb1; replace b1 := cell_keep b1 hb1; replace b2 := cell_keep b2 hb1; replace SS := Lib.hid (SS.out.below hb1); replace SA := Lib.hid (SA.out.below hb1); replace SB := Lib.hid (SB.out.below hb1); replace BB := Lib.hid (below_step BB.out hb1); clear hb1 ))
            have BLK := Lib.hid (show Below w9.heap.size w9 (w9.alloc (.cells #[.string (mkB q1), .string (mkB q2)] 26)) from (Below.refl _ _).alloc (Nat.le_refl _) _)
            go_upto_region 12 with (go_at_call 21; refine (KX.out _ _ (by first | exact SS.out.below BLK.out) (blk_nd (heap_alloc_new _ _))).mono ?_; rintro e w1 ⟨v1, rfl, hrow, hb1⟩; obtain ⟨pX, cX, rfl, hd⟩ := dfsO hrow; rw [HNX.out] at hd ⊢; have SX := Lib.hid hd; replace hb1 := below_step BLK.out hb1; replace s0 := cell_keep s0 hb1; replace s1 := cell_keep s1 hb1; replace s2 := cell_keep s2 hb1; replace qx0 := cell_keep qx0 hb1; replace qx1 := cell_keep qx1 hb1; replace l0 := cell_keep l0 hb1; replace l1 := cell_keep l1 hb1; replace l2 := cell_keep l2 hb1; replace l3 := cell_keep l3 hb1; replace a0 := cell_keep a0 hb1; replace a1 := cell_keep a1 hb1; replace a2 := cell_keep a2 hb1; replace b0 := cell_keep b0 hb1; replace b1 := cell_keep b1 hb1; replace b2 := cell_keep b2 hb1; replace SS := Lib.hid (SS.out.below hb1); replace SA := Lib.hid (SA.out.below hb1); replace SB := Lib.hid (SB.out.below hb1); replace BB := Lib.hid (below_step BB.out hb1); clear hrow hd hb1 KX BLK)
            obtain ⟨WX, gX, hW2, hg2, hr2, hb1⟩ := boxU w1 (.int .i64 m) (.int .i64 ex) (.slice pX nx cX) 24
            rw [hW2, hg2]
            replace s0 := cell_keep s0 hb1; replace s1 := cell_keep s1 hb1; replace s2 := cell_keep s2 hb1; replace qx0 := cell_keep qx0 hb1; replace qx1 := cell_keep qx1 hb1; replace l0 := cell_keep l0 hb1; replace l1 := cell_keep l1 hb1; replace l2 := cell_keep l2 hb1; replace l3 := cell_keep l3 hb1; replace a0 := cell_keep a0 hb1; replace a1 := cell_keep a1 hb1; replace a2 := cell_keep a2 hb1; replace b0 := cell_keep b0 hb1; replace b1 := cell_keep b1 hb1; replace b2 := cell_keep b2 hb1; replace SS := Lib.hid (SS.out.below hb1); replace SA := Lib.hid (SA.out.below hb1); replace SB := Lib.hid (SB.out.below hb1); replace SX := Lib.hid (SX.out.below hb1); replace BB := Lib.hid (below_step BB.out hb1)
            obtain ⟨x0, x1, x2, -⟩ := row3 hr2
            clear hW2 hg2 hr2 hb1
            have BLK := Lib.hid (show Below WX.heap.size WX (WX.alloc (.cells #[.string (mkB q1), .string (mkB q2)] 26)) from (Below.refl _ _).alloc (Nat.le_refl _) _)
            go_upto_region 13 with (go_at_call 21; refine (KY.out _ _ (by first | exact SS.out.below BLK.out) (blk_nd (heap_alloc_new _ _))).mono ?_; rintro e w1 ⟨v1, rfl, hrow, hb1⟩; obtain ⟨pY, cY, rfl, hd⟩ := dfsO hrow; rw [HNY.out] at hd ⊢; have SY := Lib.hid hd; replace hb1 := below_step BLK.out hb1; replace s0 := cell_keep s0 hb1; replace s1 := cell_keep s1 hb1; replace s2 := cell_keep s2 hb1; replace qx0 := cell_keep qx0 hb1; replace qx1 := cell_keep qx1 hb1; replace l0 := cell_keep l0 hb1; replace l1 := cell_keep l1 hb1; replace l2 := cell_keep l2 hb1; replace l3 := cell_keep l3 hb1; replace a0 := cell_keep a0 hb1; replace a1 := cell_keep a1 hb1; replace a2 := cell_keep a2 hb1; replace b0 := cell_keep b0 hb1; replace b1 := cell_keep b1 hb1; replace b2 := cell_keep b2 hb1; replace x0 := cell_keep x0 hb1; replace x1 := cell_keep x1 hb1; replace x2 := cell_keep x2 hb1; replace SS := Lib.hid (SS.out.below hb1); replace SA := Lib.hid (SA.out.below hb1); replace SB := Lib.hid (SB.out.below hb1); replace SX := Lib.hid (SX.out.below hb1); replace BB := Lib.hid (below_step BB.out hb1); clear hrow hd hb1 KY BLK)
            obtain ⟨WY, gY, hW2, hg2, hr2, hb1⟩ := boxU w1 (.int .i64 m) (.int .i64 ey) (.slice pY ny cY) 24
            rw [hW2, hg2]
            replace s0 := cell_keep s0 hb1; replace s1 := cell_keep s1 hb1; replace s2 := cell_keep s2 hb1; replace qx0 := cell_keep qx0 hb1; replace qx1 := cell_keep qx1 hb1; replace l0 := cell_keep l0 hb1; replace l1 := cell_keep l1 hb1; replace l2 := cell_keep l2 hb1; replace l3 := cell_keep l3 hb1; replace a0 := cell_keep a0 hb1; replace a1 := cell_keep a1 hb1; replace a2 := cell_keep a2 hb1; replace b0 := cell_keep b0 hb1; replace b1 := cell_keep b1 hb1; replace b2 := cell_keep b2 hb1; replace x0 := cell_keep x0 hb1; replace x1 := cell_keep x1 hb1; replace x2 := cell_keep x2 hb1; replace SS := Lib.hid (SS.out.below hb1); replace SA := Lib.hid (SA.out.below hb1); replace SB := Lib.hid (SB.out.below hb1); replace SX := Lib.hid (SX.out.below hb1); replace SY := Lib.hid (SY.out.below hb1); replace BB := Lib.hid (below_step BB.out hb1)
            obtain ⟨y0, y1, y2, -⟩ := row3 hr2
            clear hW2 hg2 hr2 hb1
            go_wp2_with (first
                | (go_at_call 18; refine (refusame_any _ _ _ _ _ _ _ _ _ _ _ _ _ (by first | exact SA.out | exact SB.out) (by first | exact SX.out | exact SY.out | exact SS.out)).mono ?_; rintro e w9 ⟨rfl, hb1⟩; rw [sameU_self]; replace s0 := cell_keep s0 hb1; replace s1 := cell_keep s1 hb1; replace s2 := cell_keep s2 hb1; replace qx0 := cell_keep qx0 hb1; replace qx1 := cell_keep qx1 hb1; replace l0 := cell_keep l0 hb1; replace l1 := cell_keep l1 hb1; replace l2 := cell_keep l2 hb1; replace l3 := cell_keep l3 hb1; replace a0 := cell_keep a0 hb1; replace a1 := cell_keep a1 hb1; replace a2 := cell_keep a2 hb1; replace b0 := cell_keep b0 hb1; replace b1 := cell_keep b1 hb1; replace b2 := cell_keep b2 hb1; replace x0 := cell_keep x0 hb1; replace x1 := cell_keep x1 hb1; replace x2 := cell_keep x2 hb1; replace y0 := cell_keep y0 hb1; replace y1 := cell_keep y1 hb1; replace y2 := cell_keep y2 hb1; replace SS := Lib.hid (SS.out.below hb1); replace SA := Lib.hid (SA.out.below hb1); replace SB := Lib.hid (SB.out.below hb1); replace SX := Lib.hid (SX.out.below hb1); replace SY := Lib.hid (SY.out.below hb1); replace BB := Lib.hid (below_step BB.out hb1); clear hb1 )
                | (go_at_call 20; refine (rawake_any _).mono ?_; rintro e w9 ⟨rfl, hb1⟩; replace s0 := cell_keep s0 hb1; replace s1 := cell_keep s1 hb1; replace s2 := cell_keep s2 hb1; replace qx0 := cell_keep qx0 hb1; replace qx1 := cell_keep qx1 hb1; replace l0 := cell_keep l0 hb1; replace l1 := cell_keep l1 hb1; replace l2 := cell_keep l2 hb1; replace l3 := cell_keep l3 hb1; replace a0 := cell_keep a0 hb1; replace a1 := cell_keep a1 hb1; replace a2 := cell_keep a2 hb1; replace b0 := cell_keep b0 hb1; replace b1 := cell_keep b1 hb1; replace b2 := cell_keep b2 hb1; replace x0 := cell_keep x0 hb1; replace x1 := cell_keep x1 hb1; replace x2 := cell_keep x2 hb1; replace y0 := cell_keep y0 hb1; replace y1 := cell_keep y1 hb1; replace y2 := cell_keep y2 hb1; replace SS := Lib.hid (SS.out.below hb1); replace SA := Lib.hid (SA.out.below hb1); replace SB := Lib.hid (SB.out.below hb1); replace SX := Lib.hid (SX.out.below hb1); replace SY := Lib.hid (SY.out.below hb1); replace BB := Lib.hid (below_step BB.out hb1); clear hb1))
            go_ret
            exact ⟨rfl, BB.out⟩
          · rw [a2 hx] at ka
            rw [b1 hy] at kb
            simp only at ka kb
            rw [hx] at KX
            rw [hy] at KY
            clear a1 a2 b1 b2 hx hy
            have KA := Lib.hid ka; have KB := Lib.hid kb; have KF := Lib.hid kf; have KM := Lib.hid km
            clear ka kb kf km
            go_upto_region 3 with (go_at_call 22; refine (KA.out _ SS.out).mono ?_; rintro e w1 ⟨v1, rfl, hrow, hb1⟩; obtain ⟨pA, cA, rfl, hd⟩ := dfsO hrow; rw [HNS.out] at hd ⊢; have SA := Lib.hid hd; replace s0 := cell_keep s0 hb1; replace s1 := cell_keep s1 hb1; replace s2 := cell_keep s2 hb1; replace qx0 := cell_keep qx0 hb1; replace qx1 := cell_keep qx1 hb1; replace l0 := cell_keep l0 hb1; replace l1 := cell_keep l1 hb1; replace l2 := cell_keep l2 hb1; replace l3 := cell_keep l3 hb1; replace SS := Lib.hid (SS.out.below hb1); replace BB := Lib.hid (below_step BB.out hb1); clear hrow hd hb1 KA)
            obtain ⟨WA, gA, hW2, hg2, hr2, hb1⟩ := boxU w1 (.int .i64 m) (.int .i64 e) (.slice pA ns cA) 24
            rw [hW2, hg2]
            replace s0 := cell_keep s0 hb1; replace s1 := cell_keep s1 hb1; replace s2 := cell_keep s2 hb1; replace qx0 := cell_keep qx0 hb1; replace qx1 := cell_keep qx1 hb1; replace l0 := cell_keep l0 hb1; replace l1 := cell_keep l1 hb1; replace l2 := cell_keep l2 hb1; replace l3 := cell_keep l3 hb1; replace SS := Lib.hid (SS.out.below hb1); replace SA := Lib.hid (SA.out.below hb1); replace BB := Lib.hid (below_step BB.out hb1)
            obtain ⟨a0, a1, a2, -⟩ := row3 hr2
            clear hW2 hg2 hr2 hb1
            go_upto_region 4 with (go_at_call 22; refine (KB.out _ SS.out).mono ?_; rintro e w1 ⟨v1, rfl, hrow, hb1⟩; obtain ⟨pB, cB, rfl, hd⟩ := dfsO hrow; rw [HNY.out] at hd ⊢; have SB := Lib.hid hd; replace s0 := cell_keep s0 hb1; replace s1 := cell_keep s1 hb1; replace s2 := cell_keep s2 hb1; replace qx0 := cell_keep qx0 hb1; replace qx1 := cell_keep qx1 hb1; replace l0 := cell_keep l0 hb1; replace l1 := cell_keep l1 hb1; replace l2 := cell_keep l2 hb1; replace l3 := cell_keep l3 hb1; replace a0 := cell_keep a0 hb1; replace a1 := cell_keep a1 hb1; replace a2 := cell_keep a2 hb1; replace SS := Lib.hid (SS.out.below hb1); replace SA := Lib.hid (SA.out.below hb1); replace BB := Lib.hid (below_step BB.out hb1); clear hrow hd hb1 KB)
            obtain ⟨WB, gB, hW2, hg2, hr2, hb1⟩ := boxU w1 (.int .i64 m) (.int .i64 ey) (.slice pB ny cB) 24
            rw [hW2, hg2]
            replace s0 := cell_keep s0 hb1; replace s1 := cell_keep s1 hb1; replace s2 := cell_keep s2 hb1; replace qx0 := cell_keep qx0 hb1; replace qx1 := cell_keep qx1 hb1; replace l0 := cell_keep l0 hb1; replace l1 := cell_keep l1 hb1; replace l2 := cell_keep l2 hb1; replace l3 := cell_keep l3 hb1; replace a0 := cell_keep a0 hb1; replace a1 := cell_keep a1 hb1; replace a2 := cell_keep a2 hb1; replace SS := Lib.hid (SS.out.below hb1); replace SA := Lib.hid (SA.out.below hb1); replace SB := Lib.hid (SB.out.below hb1); replace BB := Lib.hid (below_step BB.out hb1)
            obtain ⟨b0, b1, b2, -⟩ := row3 hr2
            clear hW2 hg2 hr2 hb1
            go_upto_region 11 with (first
                | (go_at_call 23; refine (KF.out _ SS.out).mono ?_; rintro e w9 ⟨rfl, hb1⟩; replace s0 := cell_keep s0 hb1; replace s1 := cell_keep s1 hb1; replace s2 := cell_keep s2 hb1; replace qx0 := cell_keep qx0 hb1; replace qx1 := cell_keep qx1 hb1; replace l0 := cell_keep l0 hb1; replace l1 := cell_keep l1 hb1; replace l2 := cell_keep l2 hb1; replace l3 := cell_keep l3 hb1; replace a0 := cell_keep a0 hb1; replace a1 := cell_keep a1 hb1; replace a2 := cell_keep a2 hb1; replace b0 := cell_keep b0 hb1; replace b1 := cell_keep b1 hb1; replace b2 := cell_keep b2 hb1; replace SS := Lib.hid (SS.out.below hb1); replace SA := Lib.hid (SA.out.below hb1); replace SB := Lib.hid (SB.out.below hb1); replace BB := Lib.hid (below_step BB.out hb1); clear hb1 )
                | (go_at_call 16; refine (KM.out _ SS.out).mono ?_; rintro e w9 ⟨rfl, hb1⟩; replace s0 := cell_keep s0 hb1; replace s1 := cell_keep s1 hb1; replace s2 := cell_keep s2 hb1; replace qx0 := cell_keep qx0 hb1; replace qx1 := cell_keep qx1 hb1; replace l0 := cell_keep l0 hb1; replace l1 := cell_keep l1 hb1; replace l2 := cell_keep l2 hb1; replace l3 := cell_keep l3 hb1; replace a0 := cell_keep a0 hb1; replace a1 := cell_keep a1 hb1; replace a2 := cell_keep a2 hb1; replace b0 := cell_keep b0 hb1; replace b1 := cell_keep b1 hb1; replace b2 := cell_keep b2 hb1; replace SS := Lib.hid (SS.out.below hb1); replace SA := Lib.hid (SA.out.below hb1); replace SB := Lib.hid (SB.out.below hb1); replace BB := Lib.hid (below_step BB.out hb1); clear hb1 )
                | (go_at_call 24; refine (KR.out _ SS.out).mono ?_; rintro e w9 ⟨rfl, hb1⟩; replace s0 := cell_keep s0 hb1; replace s1 := cell_keep s1 hb1; replace s2 := cell_keep s2 hb1; replace qx0 := cell_keep qx0 hb1; replace qx1 := cell_keep qx1 hb1; replace l0 := cell_keep l0 hb1; replace l1 := cell_keep l1 hb1; replace l2 := cell_keep l2 hb1; replace l3 := cell_keep l3 hb1; replace a0 := cell_keep a0 hb1; replace a1 := cell_keep a1 hb1; replace a2 := cell_keep a2 hb1; replace b0 := cell_keep b0 hb1; replace b1 := cell_keep b1 hb1; replace b2 := cell_keep b2 hb1; replace SS := Lib.hid (SS.out.below hb1); replace SA := Lib.hid (SA.out.below hb1); replace SB := Lib.hid (SB.out.below hb1); replace BB := Lib.hid (below_step BB.out hb1); clear hb1 )
                | (go_at_call 25; refine (refnmay_any q1 q2 _ HSQ.out.1 HSQ.out.2).mono ?_; rintro e w9 ⟨rfl, hb1⟩; rw [HO.out]; replace s0 := cell_keep s0 hb1; replace s1 := cell_keep s1 hb1; replace s2 := cell_keep s2 hb1; replace qx0 := cell_keep qx0 hb1; replace qx1 := cell_keep qx1 hb1; replace l0 := cell_keep l0 hb1; replace l1 := cell_keep l1 hb1; replace l2 := cell_keep l2 hb1; replace l3 := cell_keep l3 hb1; replace a0 := cell_keep a0 hb1; replace a1 := cell_keep a1 hb1; replace a2 := cell_keep a2 hb1; replace b0 := cell_keep b0 hb1; replace b1 := cell_keep b1 hb1; replace b2 := cell_keep b2 hb1; replace SS := Lib.hid (SS.out.below hb1); replace SA := Lib.hid (SA.out.below hb1); replace SB := Lib.hid (SB.out.below hb1); replace BB := Lib.hid (below_step BB.out hb1); clear hb1 ))
            have BLK := Lib.hid (show Below w9.heap.size w9 (w9.alloc (.cells #[.string (mkB q1), .string (mkB q2)] 26)) from (Below.refl _ _).alloc (Nat.le_refl _) _)
            go_upto_region 12 with (go_at_call 21; refine (KX.out _ _ (by first | exact SS.out.below BLK.out) (blk_nd (heap_alloc_new _ _))).mono ?_; rintro e w1 ⟨v1, rfl, hrow, hb1⟩; obtain ⟨pX, cX, rfl, hd⟩ := dfsO hrow; rw [HNX.out] at hd ⊢; have SX := Lib.hid hd; replace hb1 := below_step BLK.out hb1; replace s0 := cell_keep s0 hb1; replace s1 := cell_keep s1 hb1; replace s2 := cell_keep s2 hb1; replace qx0 := cell_keep qx0 hb1; replace qx1 := cell_keep qx1 hb1; replace l0 := cell_keep l0 hb1; replace l1 := cell_keep l1 hb1; replace l2 := cell_keep l2 hb1; replace l3 := cell_keep l3 hb1; replace a0 := cell_keep a0 hb1; replace a1 := cell_keep a1 hb1; replace a2 := cell_keep a2 hb1; replace b0 := cell_keep b0 hb1; replace b1 := cell_keep b1 hb1; replace b2 := cell_keep b2 hb1; replace SS := Lib.hid (SS.out.below hb1); replace SA := Lib.hid (SA.out.below hb1); replace SB := Lib.hid (SB.out.below hb1); replace BB := Lib.hid (below_step BB.out hb1); clear hrow hd hb1 KX BLK)
            obtain ⟨WX, gX, hW2, hg2, hr2, hb1⟩ := boxU w1 (.int .i64 m) (.int .i64 ex) (.slice pX nx cX) 24
            rw [hW2, hg2]
            replace s0 := cell_keep s0 hb1; replace s1 := cell_keep s1 hb1; replace s2 := cell_keep s2 hb1; replace qx0 := cell_keep qx0 hb1; replace qx1 := cell_keep qx1 hb1; replace l0 := cell_keep l0 hb1; replace l1 := cell_keep l1 hb1; replace l2 := cell_keep l2 hb1; replace l3 := cell_keep l3 hb1; replace a0 := cell_keep a0 hb1; replace a1 := cell_keep a1 hb1; replace a2 := cell_keep a2 hb1; replace b0 := cell_keep b0 hb1; replace b1 := cell_keep b1 hb1; replace b2 := cell_keep b2 hb1; replace SS := Lib.hid (SS.out.below hb1); replace SA := Lib.hid (SA.out.below hb1); replace SB := Lib.hid (SB.out.below hb1); replace SX := Lib.hid (SX.out.below hb1); replace BB := Lib.hid (below_step BB.out hb1)
            obtain ⟨x0, x1, x2, -⟩ := row3 hr2
            clear hW2 hg2 hr2 hb1
            have BLK := Lib.hid (show Below WX.heap.size WX (WX.alloc (.cells #[.string (mkB q1), .string (mkB q2)] 26)) from (Below.refl _ _).alloc (Nat.le_refl _) _)
            go_upto_region 13 with (go_at_call 21; refine (KY.out _ _ (by first | exact SS.out.below BLK.out) (blk_nd (heap_alloc_new _ _))).mono ?_; rintro e w1 ⟨v1, rfl, hrow, hb1⟩; obtain ⟨pY, cY, rfl, hd⟩ := dfsO hrow; rw [HNY.out] at hd ⊢; have SY := Lib.hid hd; replace hb1 := below_step BLK.out hb1; replace s0 := cell_keep s0 hb1; replace s1 := cell_keep s1 hb1; replace s2 := cell_keep s2 hb1; replace qx0 := cell_keep qx0 hb1; replace qx1 := cell_keep qx1 hb1; replace l0 := cell_keep l0 hb1; replace l1 := cell_keep l1 hb1; replace l2 := cell_keep l2 hb1; replace l3 := cell_keep l3 hb1; replace a0 := cell_keep a0 hb1; replace a1 := cell_keep a1 hb1; replace a2 := cell_keep a2 hb1; replace b0 := cell_keep b0 hb1; replace b1 := cell_keep b1 hb1; replace b2 := cell_keep b2 hb1; replace x0 := cell_keep x0 hb1; replace x1 := cell_keep x1 hb1; replace x2 := cell_keep x2 hb1; replace SS := Lib.hid (SS.out.below hb1); replace SA := Lib.hid (SA.out.below hb1); replace SB := Lib.hid (SB.out.below hb1); replace SX := Lib.hid (SX.out.below hb1); replace BB := Lib.hid (below_step BB.out hb1); clear hrow hd hb1 KY BLK)
            obtain ⟨WY, gY, hW2, hg2, hr2, hb1⟩ := boxU w1 (.int .i64 m) (.int .i64 ey) (.slice pY ny cY) 24
            rw [hW2, hg2]
            replace s0 := cell_keep s0 hb1; replace s1 := cell_keep s1 hb1; replace s2 := cell_keep s2 hb1; replace qx0 := cell_keep qx0 hb1; replace qx1 := cell_keep qx1 hb1; replace l0 := cell_keep l0 hb1; replace l1 := cell_keep l1 hb1; replace l2 := cell_keep l2 hb1; replace l3 := cell_keep l3 hb1; replace a0 := cell_keep a0 hb1; replace a1 := cell_keep a1 hb1; replace a2 := cell_keep a2 hb1; replace b0 := cell_keep b0 hb1; replace b1 := cell_keep b1 hb1; replace b2 := cell_keep b2 hb1; replace x0 := cell_keep x0 hb1; replace x1 := cell_keep x1 hb1; replace x2 := cell_keep x2 hb1; replace SS := Lib.hid (SS.out.below hb1); replace SA := Lib.hid (SA.out.below hb1); replace SB := Lib.hid (SB.out.below hb1); replace SX := Lib.hid (SX.out.below hb1); replace SY := Lib.hid (SY.out.below hb1); replace BB := Lib.hid (below_step BB.out hb1)
            obtain ⟨y0, y1, y2, -⟩ := row3 hr2
            clear hW2 hg2 hr2 hb1
            go_wp2_with (first
                | (go_at_call 18; refine (refusame_any _ _ _ _ _ _ _ _ _ _ _ _ _ (by first | exact SA.out | exact SB.out) (by first | exact SX.out | exact SY.out | exact SS.out)).mono ?_; rintro e w9 ⟨rfl, hb1⟩; rw [sameU_self]; replace s0 := cell_keep s0 hb1; replace s1 := cell_keep s1 hb1; replace s2 := cell_keep s2 hb1; replace qx0 := cell_keep qx0 hb1; replace qx1 := cell_keep qx1 hb1; replace l0 := cell_keep l0 hb1; replace l1 := cell_keep l1 hb1; replace l2 := cell_keep l2 hb1; replace l3 := cell_keep l3 hb1; replace a0 := cell_keep a0 hb1; replace a1 := cell_keep a1 hb1; replace a2 := cell_keep a2 hb1; replace b0 := cell_keep b0 hb1; replace b1 := cell_keep b1 hb1; replace b2 := cell_keep b2 hb1; replace x0 := cell_keep x0 hb1; replace x1 := cell_keep x1 hb1; replace x2 := cell_keep x2 hb1; replace y0 := cell_keep y0 hb1; replace y1 := cell_keep y1 hb1; replace y2 := cell_keep y2 hb1; replace SS := Lib.hid (SS.out.below hb1); replace SA := Lib.hid (SA.out.below hb1); replace SB := Lib.hid (SB.out.below hb1); replace SX := Lib.hid (SX.out.below hb1); replace SY := Lib.hid (SY.out.below hb1); replace BB := Lib.hid (below_step BB.out hb1); clear hb1 )
                | (go_at_call 20; refine (rawake_any _).mono ?_; rintro e w9 ⟨rfl, hb1⟩; replace s0 := cell_keep s0 hb1; replace s1 := cell_keep s1 hb1; replace s2 := cell_keep s2 hb1; replace qx0 := cell_keep qx0 hb1; replace qx1 := cell_keep qx1 hb1; replace l0 := cell_keep l0 hb1; replace l1 := cell_keep l1 hb1; replace l2 := cell_keep l2 hb1; replace l3 := cell_keep l3 hb1; replace a0 := cell_keep a0 hb1; replace a1 := cell_keep a1 hb1; replace a2 := cell_keep a2 hb1; replace b0 := cell_keep b0 hb1; replace b1 := cell_keep b1 hb1; replace b2 := cell_keep b2 hb1; replace x0 := cell_keep x0 hb1; replace x1 := cell_keep x1 hb1; replace x2 := cell_keep x2 hb1; replace y0 := cell_keep y0 hb1; replace y1 := cell_keep y1 hb1; replace y2 := cell_keep y2 hb1; replace SS := Lib.hid (SS.out.below hb1); replace SA := Lib.hid (SA.out.below hb1); replace SB := Lib.hid (SB.out.below hb1); replace SX := Lib.hid (SX.out.below hb1); replace SY := Lib.hid (SY.out.below hb1); replace BB := Lib.hid (below_step BB.out hb1); clear hb1))
            go_ret
            exact ⟨rfl, BB.out⟩
        · cases hy : okU m ey Y
          · rw [a1 hx] at ka
            rw [b2 hy] at kb
            simp only at ka kb
            rw [hx] at KX
            rw [hy] at KY
            clear a1 a2 b1 b2 hx hy
            have KA := Lib.hid ka; have KB := Lib.hid kb; have KF := Lib.hid kf; have KM := Lib.hid km
            clear ka kb kf km
            go_upto_region 3 with (go_at_call 22; refine (KA.out _ SS.out).mono ?_; rintro e w1 ⟨v1, rfl, hrow, hb1⟩; obtain ⟨pA, cA, rfl, hd⟩ := dfsO hrow; rw [HNX.out] at hd ⊢; have SA := Lib.hid hd; replace s0 := cell_keep s0 hb1; replace s1 := cell_keep s1 hb1; replace s2 := cell_keep s2 hb1; replace qx0 := cell_keep qx0 hb1; replace qx1 := cell_keep qx1 hb1; replace l0 := cell_keep l0 hb1; replace l1 := cell_keep l1 hb1; replace l2 := cell_keep l2 hb1; replace l3 := cell_keep l3 hb1; replace SS := Lib.hid (SS.out.below hb1); replace BB := Lib.hid (below_step BB.out hb1); clear hrow hd hb1 KA)
            obtain ⟨WA, gA, hW2, hg2, hr2, hb1⟩ := boxU w1 (.int .i64 m) (.int .i64 ex) (.slice pA nx cA) 24
            rw [hW2, hg2]
            replace s0 := cell_keep s0 hb1; replace s1 := cell_keep s1 hb1; replace s2 := cell_keep s2 hb1; replace qx0 := cell_keep qx0 hb1; replace qx1 := cell_keep qx1 hb1; replace l0 := cell_keep l0 hb1; replace l1 := cell_keep l1 hb1; replace l2 := cell_keep l2 hb1; replace l3 := cell_keep l3 hb1; replace SS := Lib.hid (SS.out.below hb1); replace SA := Lib.hid (SA.out.below hb1); replace BB := Lib.hid (below_step BB.out hb1)
            obtain ⟨a0, a1, a2, -⟩ := row3 hr2
            clear hW2 hg2 hr2 hb1
            go_upto_region 4 with (go_at_call 22; refine (KB.out _ SS.out).mono ?_; rintro e w1 ⟨v1, rfl, hrow, hb1⟩; obtain ⟨pB, cB, rfl, hd⟩ := dfsO hrow; rw [HNS.out] at hd ⊢; have SB := Lib.hid hd; replace s0 := cell_keep s0 hb1; replace s1 := cell_keep s1 hb1; replace s2 := cell_keep s2 hb1; replace qx0 := cell_keep qx0 hb1; replace qx1 := cell_keep qx1 hb1; replace l0 := cell_keep l0 hb1; replace l1 := cell_keep l1 hb1; replace l2 := cell_keep l2 hb1; replace l3 := cell_keep l3 hb1; replace a0 := cell_keep a0 hb1; replace a1 := cell_keep a1 hb1; replace a2 := cell_keep a2 hb1; replace SS := Lib.hid (SS.out.below hb1); replace SA := Lib.hid (SA.out.below hb1); replace BB := Lib.hid (below_step BB.out hb1); clear hrow hd hb1 KB)
            obtain ⟨WB, gB, hW2, hg2, hr2, hb1⟩ := boxU w1 (.int .i64 m) (.int .i64 e) (.slice pB ns cB) 24
            rw [hW2, hg2]
            replace s0 := cell_keep s0 hb1; replace s1 := cell_keep s1 hb1; replace s2 := cell_keep s2 hb1; replace qx0 := cell_keep qx0 hb1; replace qx1 := cell_keep qx1 hb1; replace l0 := cell_keep l0 hb1; replace l1 := cell_keep l1 hb1; replace l2 := cell_keep l2 hb1; replace l3 := cell_keep l3 hb1; replace a0 := cell_keep a0 hb1; replace a1 := cell_keep a1 hb1; replace a2 := cell_keep a2 hb1; replace SS := Lib.hid (SS.out.below hb1); replace SA := Lib.hid (SA.out.below hb1); replace SB := Lib.hid (SB.out.below hb1); replace BB := Lib.hid (below_step BB.out hb1)
            obtain ⟨b0, b1, b2, -⟩ := row3 hr2
            clear hW2 hg2 hr2 hb1
            go_upto_region 11 with (first
                | (go_at_call 23; refine (KF.out _ SS.out).mono ?_; rintro e w9 ⟨rfl, hb1⟩; replace s0 := cell_keep s0 hb1; replace s1 := cell_keep s1 hb1; replace s2 := cell_keep s2 hb1; replace qx0 := cell_keep qx0 hb1; replace qx1 := cell_keep qx1 hb1; replace l0 := cell_keep l0 hb1; replace l1 := cell_keep l1 hb1; replace l2 := cell_keep l2 hb1; replace l3 := cell_keep l3 hb1; replace a0 := cell_keep a0 hb1; replace a1 := cell_keep a1 hb1; replace a2 := cell_keep a2 hb1; replace b0 := cell_keep b0 hb1; replace b1 := cell_keep b1 hb1; replace b2 := cell_keep b2 hb1; replace SS := Lib.hid (SS.out.below hb1); replace SA := Lib.hid (SA.out.below hb1); replace SB := Lib.hid (SB.out.below hb1); replace BB := Lib.hid (below_step BB.out hb1); clear hb1 )
                | (go_at_call 16; refine (KM.out _ SS.out).mono ?_; rintro e w9 ⟨rfl, hb1⟩; replace s0 := cell_keep s0 hb1; replace s1 := cell_keep s1 hb1; replace s2 := cell_keep s2 hb1; replace qx0 := cell_keep qx0 hb1; replace qx1 := cell_keep qx1 hb1; replace l0 := cell_keep l0 hb1; replace l1 := cell_keep l1 hb1; replace l2 := cell_keep l2 hb1; replace l3 := cell_keep l3 hb1; replace a0 := cell_keep a0 hb1; replace a1 := cell_keep a1 hb1; replace a2 := cell_keep a2 hb1; replace b0 := cell_keep b0 hb1; replace b1 := cell_keep b1 hb1; replace b2 := cell_keep b2 hb1; replace SS := Lib.hid (SS.out.below hb1); replace SA := Lib.hid (SA.out.below hb1); replace SB := Lib.hid (SB.out.below hb1); replace BB := Lib.hid (below_step BB.out hb1); clear hb1 )
                | (go_at_call 24; refine (KR.out _ SS.out).mono ?_; rintro e w9 ⟨rfl, hb1⟩; replace s0 := cell_keep s0 hb1; replace s1 := cell_keep s1 hb1; replace s2 := cell_keep s2 hb1; replace qx0 := cell_keep qx0 hb1; replace qx1 := cell_keep qx1 hb1; replace l0 := cell_keep l0 hb1; replace l1 := cell_keep l1 hb1; replace l2 := cell_keep l2 hb1; replace l3 := cell_keep l3 hb1; replace a0 := cell_keep a0 hb1; replace a1 := cell_keep a1 hb1; replace a2 := cell_keep a2 hb1; replace b0 := cell_keep b0 hb1; replace b1 := cell_keep b1 hb1; replace b2 := cell_keep b2 hb1; replace SS := Lib.hid (SS.out.below hb1); replace SA := Lib.hid (SA.out.below hb1); replace SB := Lib.hid (SB.out.below hb1); replace BB := Lib.hid (below_step BB.out hb1); clear hb1 )
                | (go_at_call 25; refine (refnmay_any q1 q2 _ HSQ.out.1 HSQ.out.2).mono ?_; rintro e w9 ⟨rfl, hb1⟩; rw [HO.out]; replace s0 := cell_keep s0 hb1; replace s1 := cell_keep s1 hb1; replace s2 := cell_keep s2 hb1; replace qx0 := cell_keep qx0 hb1; replace qx1 := cell_keep qx1 hb1; replace l0 := cell_keep l0 hb1; replace l1 := cell_keep l1 hb1; replace l2 := cell_keep l2 hb1; replace l3 := cell_keep l3 hb1; replace a0 := cell_keep a0 hb1; replace a1 := cell_keep a1 hb1; replace a2 := cell_keep a2 hb1; replace b0 := cell_keep b0 hb1; replace b1 := cell_keep b1 hb1; replace b2 := cell_keep b2 hb1; replace SS := Lib.hid (SS.out.below hb1); replace SA := Lib.hid (SA.out.below hb1); replace SB := Lib.hid (SB.out.below hb1); replace BB := Lib.hid (below_step BB.out hb1); clear hb1 ))
            have BLK := Lib.hid (show Below w9.heap.size w9 (w9.alloc (.cells #[.string (mkB q1), .string (mkB q2)] 26)) from (Below.refl _ _).alloc (Nat.le_refl _) _)
            go_upto_region 12 with (go_at_call 21; refine (KX.out _ _ (by first | exact SS.out.below BLK.out) (blk_nd (heap_alloc_new _ _))).mono ?_; rintro e w1 ⟨v1, rfl, hrow, hb1⟩; obtain ⟨pX, cX, rfl, hd⟩ := dfsO hrow; rw [HNX.out] at hd ⊢; have SX := Lib.hid hd; replace hb1 := below_step BLK.out hb1; replace s0 := cell_keep s0 hb1; replace s1 := cell_keep s1 hb1; replace s2 := cell_keep s2 hb1; replace qx0 := cell_keep qx0 hb1; replace qx1 := cell_keep qx1 hb1; replace l0 := cell_keep l0 hb1; replace l1 := cell_keep l1 hb1; replace l2 := cell_keep l2 hb1; replace l3 := cell_keep l3 hb1; replace a0 := cell_keep a0 hb1; replace a1 := cell_keep a1 hb1; replace a2 := cell_keep a2 hb1; replace b0 := cell_keep b0 hb1; replace b1 := cell_keep b1 hb1; replace b2 := cell_keep b2 hb1; replace SS := Lib.hid (SS.out.below hb1); replace SA := Lib.hid (SA.out.below hb1); replace SB := Lib.hid (SB.out.below hb1); replace BB := Lib.hid (below_step BB.out hb1); clear hrow hd hb1 KX BLK)
            obtain ⟨WX, gX, hW2, hg2, hr2, hb1⟩ := boxU w1 (.int .i64 m) (.int .i64 ex) (.slice pX nx cX) 24
            rw [hW2, hg2]
            replace s0 := cell_keep s0 hb1; replace s1 := cell_keep s1 hb1; replace s2 := cell_keep s2 hb1; replace qx0 := cell_keep qx0 hb1; replace qx1 := cell_keep qx1 hb1; replace l0 := cell_keep l0 hb1; replace l1 := cell_keep l1 hb1; replace l2 := cell_keep l2 hb1; replace l3 := cell_keep l3 hb1; replace a0 := cell_keep a0 hb1; replace a1 := cell_keep a1 hb1; replace a2 := cell_keep a2 hb1; replace b0 := cell_keep b0 hb1; replace b1 := cell_keep b1 hb1; replace b2 := cell_keep b2 hb1; replace SS := Lib.hid (SS.out.below hb1); replace SA := Lib.hid (SA.out.below hb1); replace SB := Lib.hid (SB.out.below hb1); replace SX := Lib.hid (SX.out.below hb1); replace BB := Lib.hid (below_step BB.out hb1)
            obtain ⟨x0, x1, x2, -⟩ := row3 hr2
            clear hW2 hg2 hr2 hb1
            have BLK := Lib.hid (show Below WX.heap.size WX (WX.alloc (.cells #[.string (mkB q1), .string (mkB q2)] 26)) from (Below.refl _ _).alloc (Nat.le_refl _) _)
            go_upto_region 13 with (go_at_call 21; refine (KY.out _ _ (by first | exact SS.out.below BLK.out) (blk_nd (heap_alloc_new _ _))).mono ?_; rintro e w1 ⟨v1, rfl, hrow, hb1⟩; obtain ⟨pY, cY, rfl, hd⟩ := dfsO hrow; rw [HNY.out] at hd ⊢; have SY := Lib.hid hd; replace hb1 := below_step BLK.out hb1; replace s0 := cell_keep s0 hb1; replace s1 := cell_keep s1 hb1; replace s2 := cell_keep s2 hb1; replace qx0 := cell_keep qx0 hb1; replace qx1 := cell_keep qx1 hb1; replace l0 := cell_keep l0 hb1; replace l1 := cell_keep l1 hb1; replace l2 := cell_keep l2 hb1; replace l3 := cell_keep l3 hb1; replace a0 := cell_keep a0 hb1; replace a1 := cell_keep a1 hb1; replace a2 := cell_keep a2 hb1; replace b0 := cell_keep b0 hb1; replace b1 := cell_keep b1 hb1; replace b2 := cell_keep b2 hb1; replace x0 := cell_keep x0 hb1; replace x1 := cell_keep x1 hb1; replace x2 := cell_keep x2 hb1; replace SS := Lib.hid (SS.out.below hb1); replace SA := Lib.hid (SA.out.below hb1); replace SB := Lib.hid (SB.out.below hb1); replace SX := Lib.hid (SX.out.below hb1); replace BB := Lib.hid (below_step BB.out hb1); clear hrow hd hb1 KY BLK)
            obtain ⟨WY, gY, hW2, hg2, hr2, hb1⟩ := boxU w1 (.int .i64 m) (.int .i64 ey) (.slice pY ny cY) 24
            rw [hW2, hg2]
            replace s0 := cell_keep s0 hb1; replace s1 := cell_keep s1 hb1; replace s2 := cell_keep s2 hb1; replace qx0 := cell_keep qx0 hb1; replace qx1 := cell_keep qx1 hb1; replace l0 := cell_keep l0 hb1; replace l1 := cell_keep l1 hb1; replace l2 := cell_keep l2 hb1; replace l3 := cell_keep l3 hb1; replace a0 := cell_keep a0 hb1; replace a1 := cell_keep a1 hb1; replace a2 := cell_keep a2 hb1; replace b0 := cell_keep b0 hb1; replace b1 := cell_keep b1 hb1; replace b2 := cell_keep b2 hb1; replace x0 := cell_keep x0 hb1; replace x1 := cell_keep x1 hb1; replace x2 := cell_keep x2 hb1; replace SS := Lib.hid (SS.out.below hb1); replace SA := Lib.hid (SA.out.below hb1); replace SB := Lib.hid (SB.out.below hb1); replace SX := Lib.hid (SX.out.below hb1); replace SY := Lib.hid (SY.out.below hb1); replace BB := Lib.hid (below_step BB.out hb1)
            obtain ⟨y0, y1, y2, -⟩ := row3 hr2
            clear hW2 hg2 hr2 hb1
            go_wp2_with (first
                | (go_at_call 18; refine (refusame_any _ _ _ _ _ _ _ _ _ _ _ _ _ (by first | exact SA.out | exact SB.out) (by first | exact SX.out | exact SY.out | exact SS.out)).mono ?_; rintro e w9 ⟨rfl, hb1⟩; rw [sameU_self]; replace s0 := cell_keep s0 hb1; replace s1 := cell_keep s1 hb1; replace s2 := cell_keep s2 hb1; replace qx0 := cell_keep qx0 hb1; replace qx1 := cell_keep qx1 hb1; replace l0 := cell_keep l0 hb1; replace l1 := cell_keep l1 hb1; replace l2 := cell_keep l2 hb1; replace l3 := cell_keep l3 hb1; replace a0 := cell_keep a0 hb1; replace a1 := cell_keep a1 hb1; replace a2 := cell_keep a2 hb1; replace b0 := cell_keep b0 hb1; replace b1 := cell_keep b1 hb1; replace b2 := cell_keep b2 hb1; replace x0 := cell_keep x0 hb1; replace x1 := cell_keep x1 hb1; replace x2 := cell_keep x2 hb1; replace y0 := cell_keep y0 hb1; replace y1 := cell_keep y1 hb1; replace y2 := cell_keep y2 hb1; replace SS := Lib.hid (SS.out.below hb1); replace SA := Lib.hid (SA.out.below hb1); replace SB := Lib.hid (SB.out.below hb1); replace SX := Lib.hid (SX.out.below hb1); replace SY := Lib.hid (SY.out.below hb1); replace BB := Lib.hid (below_step BB.out hb1); clear hb1 )
                | (go_at_call 20; refine (rawake_any _).mono ?_; rintro e w9 ⟨rfl, hb1⟩; replace s0 := cell_keep s0 hb1; replace s1 := cell_keep s1 hb1; replace s2 := cell_keep s2 hb1; replace qx0 := cell_keep qx0 hb1; replace qx1 := cell_keep qx1 hb1; replace l0 := cell_keep l0 hb1; replace l1 := cell_keep l1 hb1; replace l2 := cell_keep l2 hb1; replace l3 := cell_keep l3 hb1; replace a0 := cell_keep a0 hb1; replace a1 := cell_keep a1 hb1; replace a2 := cell_keep a2 hb1; replace b0 := cell_keep b0 hb1; replace b1 := cell_keep b1 hb1; replace b2 := cell_keep b2 hb1; replace x0 := cell_keep x0 hb1; replace x1 := cell_keep x1 hb1; replace x2 := cell_keep x2 hb1; replace y0 := cell_keep y0 hb1; replace y1 := cell_keep y1 hb1; replace y2 := cell_keep y2 hb1; replace SS := Lib.hid (SS.out.below hb1); replace SA := Lib.hid (SA.out.below hb1); replace SB := Lib.hid (SB.out.below hb1); replace SX := Lib.hid (SX.out.below hb1); replace SY := Lib.hid (SY.out.below hb1); replace BB := Lib.hid (below_step BB.out hb1); clear hb1))
            go_ret
            exact ⟨rfl, BB.out⟩
          · rw [a1 hx] at ka
            rw [b1 hy] at kb
            simp only at ka kb
            rw [hx] at KX
            rw [hy] at KY
            clear a1 a2 b1 b2 hx hy
            have KA := Lib.hid ka; have KB := Lib.hid kb; have KF := Lib.hid kf; have KM := Lib.hid km
            clear ka kb kf km
            go_upto_region 3 with (go_at_call 22; refine (KA.out _ SS.out).mono ?_; rintro e w1 ⟨v1, rfl, hrow, hb1⟩; obtain ⟨pA, cA, rfl, hd⟩ := dfsO hrow; rw [HNX.out] at hd ⊢; have SA := Lib.hid hd; replace s0 := cell_keep s0 hb1; replace s1 := cell_keep s1 hb1; replace s2 := cell_keep s2 hb1; replace qx0 := cell_keep qx0 hb1; replace qx1 := cell_keep qx1 hb1; replace l0 := cell_keep l0 hb1; replace l1 := cell_keep l1 hb1; replace l2 := cell_keep l2 hb1; replace l3 := cell_keep l3 hb1; replace SS := Lib.hid (SS.out.below hb1); replace BB := Lib.hid (below_step BB.out hb1); clear hrow hd hb1 KA)
            obtain ⟨WA, gA, hW2, hg2, hr2, hb1⟩ := boxU w1 (.int .i64 m) (.int .i64 ex) (.slice pA nx cA) 24
            rw [hW2, hg2]
            replace s0 := cell_keep s0 hb1; replace s1 := cell_keep s1 hb1; replace s2 := cell_keep s2 hb1; replace qx0 := cell_keep qx0 hb1; replace qx1 := cell_keep qx1 hb1; replace l0 := cell_keep l0 hb1; replace l1 := cell_keep l1 hb1; replace l2 := cell_keep l2 hb1; replace l3 := cell_keep l3 hb1; replace SS := Lib.hid (SS.out.below hb1); replace SA := Lib.hid (SA.out.below hb1); replace BB := Lib.hid (below_step BB.out hb1)
            obtain ⟨a0, a1, a2, -⟩ := row3 hr2
            clear hW2 hg2 hr2 hb1
            go_upto_region 4 with (go_at_call 22; refine (KB.out _ SS.out).mono ?_; rintro e w1 ⟨v1, rfl, hrow, hb1⟩; obtain ⟨pB, cB, rfl, hd⟩ := dfsO hrow; rw [HNY.out] at hd ⊢; have SB := Lib.hid hd; replace s0 := cell_keep s0 hb1; replace s1 := cell_keep s1 hb1; replace s2 := cell_keep s2 hb1; replace qx0 := cell_keep qx0 hb1; replace qx1 := cell_keep qx1 hb1; replace l0 := cell_keep l0 hb1; replace l1 := cell_keep l1 hb1; replace l2 := cell_keep l2 hb1; replace l3 := cell_keep l3 hb1; replace a0 := cell_keep a0 hb1; replace a1 := cell_keep a1 hb1; replace a2 := cell_keep a2 hb1; replace SS := Lib.hid (SS.out.below hb1); replace SA := Lib.hid (SA.out.below hb1); replace BB := Lib.hid (below_step BB.out hb1); clear hrow hd hb1 KB)
            obtain ⟨WB, gB, hW2, hg2, hr2, hb1⟩ := boxU w1 (.int .i64 m) (.int .i64 ey) (.slice pB ny cB) 24
            rw [hW2, hg2]
            replace s0 := cell_keep s0 hb1; replace s1 := cell_keep s1 hb1; replace s2 := cell_keep s2 hb1; replace qx0 := cell_keep qx0 hb1; replace qx1 := cell_keep qx1 hb1; replace l0 := cell_keep l0 hb1; replace l1 := cell_keep l1 hb1; replace l2 := cell_keep l2 hb1; replace l3 := cell_keep l3 hb1; replace a0 := cell_keep a0 hb1; replace a1 := cell_keep a1 hb1; replace a2 := cell_keep a2 hb1; replace SS := Lib.hid (SS.out.below hb1); replace SA := Lib.hid (SA.out.below hb1); replace SB := Lib.hid (SB.out.below hb1); replace BB := Lib.hid (below_step BB.out hb1)
            obtain ⟨b0, b1, b2, -⟩ := row3 hr2
            clear hW2 hg2 hr2 hb1
            go_upto_region 11 with (first
                | (go_at_call 23; refine (KF.out _ SS.out).mono ?_; rintro e w9 ⟨rfl, hb1⟩; replace s0 := cell_keep s0 hb1; replace s1 := cell_keep s1 hb1; replace s2 := cell_keep s2 hb1; replace qx0 := cell_keep qx0 hb1; replace qx1 := cell_keep qx1 hb1; replace l0 := cell_keep l0 hb1; replace l1 := cell_keep l1 hb1; replace l2 := cell_keep l2 hb1; replace l3 := cell_keep l3 hb1; replace a0 := cell_keep a0 hb1; replace a1 := cell_keep a1 hb1; replace a2 := cell_keep a2 hb1; replace b0 := cell_keep b0 hb1; replace b1 := cell_keep b1 hb1; replace b2 := cell_keep b2 hb1; replace SS := Lib.hid (SS.out.below hb1); replace SA := Lib.hid (SA.out.below hb1); replace SB := Lib.hid (SB.out.below hb1); replace BB := Lib.hid (below_step BB.out hb1); clear hb1 )
                | (go_at_call 16; refine (KM.out _ SS.out).mono ?_; rintro e w9 ⟨rfl, hb1⟩; replace s0 := cell_keep s0 hb1; replace s1 := cell_keep s1 hb1; replace s2 := cell_keep s2 hb1; replace qx0 := cell_keep qx0 hb1; replace qx1 := cell_keep qx1 hb1; replace l0 := cell_keep l0 hb1; replace l1 := cell_keep l1 hb1; replace l2 := cell_keep l2 hb1; replace l3 := cell_keep l3 hb1; replace a0 := cell_keep a0 hb1; replace a1 := cell_keep a1 hb1; replace a2 := cell_keep a2 hb1; replace b0 := cell_keep b0 hb1; replace b1 := cell_keep b1 hb1; replace b2 := cell_keep b2 hb1; replace SS := Lib.hid (SS.out.below hb1); replace SA := Lib.hid (SA.out.below hb1); replace SB := Lib.hid (SB.out.below hb1); replace BB := Lib.hid (below_step BB.out hb1); clear hb1 )
                | (go_at_call 24; refine (KR.out _ SS.out).mono ?_; rintro e w9 ⟨rfl, hb1⟩; replace s0 := cell_keep s0 hb1; replace s1 := cell_keep s1 hb1; replace s2 := cell_keep s2 hb1; replace qx0 := cell_keep qx0 hb1; replace qx1 := cell_keep qx1 hb1; replace l0 := cell_keep l0 hb1; replace l1 := cell_keep l1 hb1; replace l2 := cell_keep l2 hb1; replace l3 := cell_keep l3 hb1; replace a0 := cell_keep a0 hb1; replace a1 := cell_keep a1 hb1; replace a2 := cell_keep a2 hb1; replace b0 := cell_keep b0 hb1; replace b1 := cell_keep b1 hb1; replace b2 := cell_keep b2 hb1; replace SS := Lib.hid (SS.out.below hb1); replace SA := Lib.hid (SA.out.below hb1); replace SB := Lib.hid (SB.out.below hb1); replace BB := Lib.hid (below_step BB.out hb1); clear hb1 )
                | (go_at_call 25; refine (refnmay_any q1 q2 _ HSQ.out.1 HSQ.out.2).mono ?_; rintro e w9 ⟨rfl, hb1⟩; rw [HO.out]; replace s0 := cell_keep s0 hb1; replace s1 := cell_keep s1 hb1; replace s2 := cell_keep s2 hb1; replace qx0 := cell_keep qx0 hb1; replace qx1 := cell_keep qx1 hb1; replace l0 := cell_keep l0 hb1; replace l1 := cell_keep l1 hb1; replace l2 := cell_keep l2 hb1; replace l3 := cell_keep l3 hb1; replace a0 := cell_keep a0 hb1; replace a1 := cell_keep a1 hb1; replace a2 := cell_keep a2 hb1; replace b0 := cell_keep b0 hb1; replace b1 := cell_keep b1 hb1; replace b2 := cell_keep b2 hb1; replace SS := Lib.hid (SS.out.below hb1); replace SA := Lib.hid (SA.out.below hb1); replace SB := Lib.hid (SB.out.below hb1); replace BB := Lib.hid (below_step BB.out hb1); clear hb1 ))
            have BLK := Lib.hid (show Below w9.heap.size w9 (w9.alloc (.cells #[.string (mkB q1), .string (mkB q2)] 26)) from (Below.refl _ _).alloc (Nat.le_refl _) _)
            go_upto_region 12 with (go_at_call 21; refine (KX.out _ _ (by first | exact SS.out.below BLK.out) (blk_nd (heap_alloc_new _ _))).mono ?_; rintro e w1 ⟨v1, rfl, hrow, hb1⟩; obtain ⟨pX, cX, rfl, hd⟩ := dfsO hrow; rw [HNX.out] at hd ⊢; have SX := Lib.hid hd; replace hb1 := below_step BLK.out hb1; replace s0 := cell_keep s0 hb1; replace s1 := cell_keep s1 hb1; replace s2 := cell_keep s2 hb1; replace qx0 := cell_keep qx0 hb1; replace qx1 := cell_keep qx1 hb1; replace l0 := cell_keep l0 hb1; replace l1 := cell_keep l1 hb1; replace l2 := cell_keep l2 hb1; replace l3 := cell_keep l3 hb1; replace a0 := cell_keep a0 hb1; replace a1 := cell_keep a1 hb1; replace a2 := cell_keep a2 hb1; replace b0 := cell_keep b0 hb1; replace b1 := cell_keep b1 hb1; replace b2 := cell_keep b2 hb1; replace SS := Lib.hid (SS.out.below hb1); replace SA := Lib.hid (SA.out.below hb1); replace SB := Lib.hid (SB.out.below hb1); replace BB := Lib.hid (below_step BB.out hb1); clear hrow hd hb1 KX BLK)
            obtain ⟨WX, gX, hW2, hg2, hr2, hb1⟩ := boxU w1 (.int .i64 m) (.int .i64 ex) (.slice pX nx cX) 24
            rw [hW2, hg2]
            replace s0 := cell_keep s0 hb1; replace s1 := cell_keep s1 hb1; replace s2 := cell_keep s2 hb1; replace qx0 := cell_keep qx0 hb1; replace qx1 := cell_keep qx1 hb1; replace l0 := cell_keep l0 hb1; replace l1 := cell_keep l1 hb1; replace l2 := cell_keep l2 hb1; replace l3 := cell_keep l3 hb1; replace a0 := cell_keep a0 hb1; replace a1 := cell_keep a1 hb1; replace a2 := cell_keep a2 hb1; replace b0 := cell_keep b0 hb1; replace b1 := cell_keep b1 hb1; replace b2 := cell_keep b2 hb1; replace SS := Lib.hid (SS.out.below hb1); replace SA := Lib.hid (SA.out.below hb1); replace SB := Lib.hid (SB.out.below hb1); replace SX := Lib.hid (SX.out.below hb1); replace BB := Lib.hid (below_step BB.out hb1)
            obtain ⟨x0, x1, x2, -⟩ := row3 hr2
            clear hW2 hg2 hr2 hb1
            have BLK := Lib.hid (show Below WX.heap.size WX (WX.alloc (.cells #[.string (mkB q1), .string (mkB q2)] 26)) from (Below.refl _ _).alloc (Nat.le_refl _) _)
            go_upto_region 13 with (go_at_call 21; refine (KY.out _ _ (by first | exact SS.out.below BLK.out) (blk_nd (heap_alloc_new _ _))).mono ?_; rintro e w1 ⟨v1, rfl, hrow, hb1⟩; obtain ⟨pY, cY, rfl, hd⟩ := dfsO hrow; rw [HNY.out] at hd ⊢; have SY := Lib.hid hd; replace hb1 := below_step BLK.out hb1; replace s0 := cell_keep s0 hb1; replace s1 := cell_keep s1 hb1; replace s2 := cell_keep s2 hb1; replace qx0 := cell_keep qx0 hb1; replace qx1 := cell_keep qx1 hb1; replace l0 := cell_keep l0 hb1; replace l1 := cell_keep l1 hb1; replace l2 := cell_keep l2 hb1; replace l3 := cell_keep l3 hb1; replace a0 := cell_keep a0 hb1; replace a1 := cell_keep a1 hb1; replace a2 := cell_keep a2 hb1; replace b0 := cell_keep b0 hb1; replace b1 := cell_keep b1 hb1; replace b2 := cell_keep b2 hb1; replace x0 := cell_keep x0 hb1; replace x1 := cell_keep x1 hb1; replace x2 := cell_keep x2 hb1; replace SS := Lib.hid (SS.out.below hb1); replace SA := Lib.hid (SA.out.below hb1); replace SB := Lib.hid (SB.out.below hb1); replace SX := Lib.hid (SX.out.below hb1); replace BB := Lib.hid (below_step BB.out hb1); clear hrow hd hb1 KY BLK)
            obtain ⟨WY, gY, hW2, hg2, hr2, hb1⟩ := boxU w1 (.int .i64 m) (.int .i64 ey) (.slice pY ny cY) 24
            rw [hW2, hg2]
            replace s0 := cell_keep s0 hb1; replace s1 := cell_keep s1 hb1; replace s2 := cell_keep s2 hb1; replace qx0 := cell_keep qx0 hb1; replace qx1 := cell_keep qx1 hb1; replace l0 := cell_keep l0 hb1; replace l1 := cell_keep l1 hb1; replace l2 := cell_keep l2 hb1; replace l3 := cell_keep l3 hb1; replace a0 := cell_keep a0 hb1; replace a1 := cell_keep a1 hb1; replace a2 := cell_keep a2 hb1; replace b0 := cell_keep b0 hb1; replace b1 := cell_keep b1 hb1; replace b2 := cell_keep b2 hb1; replace x0 := cell_keep x0 hb1; replace x1 := cell_keep x1 hb1; replace x2 := cell_keep x2 hb1; replace SS := Lib.hid (SS.out.below hb1); replace SA := Lib.hid (SA.out.below hb1); replace SB := Lib.hid (SB.out.below hb1); replace SX := Lib.hid (SX.out.below hb1); replace SY := Lib.hid (SY.out.below hb1); replace BB := Lib.hid (below_step BB.out hb1)
            obtain ⟨y0, y1, y2, -⟩ := row3 hr2
            clear hW2 hg2 hr2 hb1
            go_wp2_with (first
                | (go_at_call 18; refine (refusame_any _ _ _ _ _ _ _ _ _ _ _ _ _ (by first | exact SA.out | exact SB.out) (by first | exact SX.out | exact SY.out | exact SS.out)).mono ?_; rintro e w9 ⟨rfl, hb1⟩; rw [sameU_self]; replace s0 := cell_keep s0 hb1; replace s1 := cell_keep s1 hb1; replace s2 := cell_keep s2 hb1; replace qx0 := cell_keep qx0 hb1; replace qx1 := cell_keep qx1 hb1; replace l0 := cell_keep l0 hb1; replace l1 := cell_keep l1 hb1; replace l2 := cell_keep l2 hb1; replace l3 := cell_keep l3 hb1; replace a0 := cell_keep a0 hb1; replace a1 := cell_keep a1 hb1; replace a2 := cell_keep a2 hb1; replace b0 := cell_keep b0 hb1; replace b1 := cell_keep b1 hb1; replace b2 := cell_keep b2 hb1; replace x0 := cell_keep x0 hb1; replace x1 := cell_keep x1 hb1; replace x2 := cell_keep x2 hb1; replace y0 := cell_keep y0 hb1; replace y1 := cell_keep y1 hb1; replace y2 := cell_keep y2 hb1; replace SS := Lib.hid (SS.out.below hb1); replace SA := Lib.hid (SA.out.below hb1); replace SB := Lib.hid (SB.out.below hb1); replace SX := Lib.hid (SX.out.below hb1); replace SY := Lib.hid (SY.out.below hb1); replace BB := Lib.hid (below_step BB.out hb1); clear hb1 )
                | (go_at_call 20; refine (rawake_any _).mono ?_; rintro e w9 ⟨rfl, hb1⟩; replace s0 := cell_keep s0 hb1; replace s1 := cell_keep s1 hb1; replace s2 := cell_keep s2 hb1; replace qx0 := cell_keep qx0 hb1; replace qx1 := cell_keep qx1 hb1; replace l0 := cell_keep l0 hb1; replace l1 := cell_keep l1 hb1; replace l2 := cell_keep l2 hb1; replace l3 := cell_keep l3 hb1; replace a0 := cell_keep a0 hb1; replace a1 := cell_keep a1 hb1; replace a2 := cell_keep a2 hb1; replace b0 := cell_keep b0 hb1; replace b1 := cell_keep b1 hb1; replace b2 := cell_keep b2 hb1; replace x0 := cell_keep x0 hb1; replace x1 := cell_keep x1 hb1; replace x2 := cell_keep x2 hb1; replace y0 := cell_keep y0 hb1; replace y1 := cell_keep y1 hb1; replace y2 := cell_keep y2 hb1; replace SS := Lib.hid (SS.out.below hb1); replace SA := Lib.hid (SA.out.below hb1); replace SB := Lib.hid (SB.out.below hb1); replace SX := Lib.hid (SX.out.below hb1); replace SY := Lib.hid (SY.out.below hb1); replace BB := Lib.hid (below_step BB.out hb1); clear hb1))
            go_ret
            exact ⟨rfl, BB.out⟩

theorem own : ownKnob Tryz.prog.godebug = none := by kernel_rfl
theorem laidOut : laidOutB Tryz.prog = true := by kernel_rfl

set_option maxRecDepth 100000 in
theorem lifted (os : Os) (started : os.Started) (H : Type) (enc : TypeId × Value → H) :
    ReturnsInHanded {} Tryz.checked os 4 .any (Rows.roomRootsSpec.pre6 enc Tryz.prog Tryz.f4 Rows.roomRootsRow.domain false) (Rows.roomRootsSpec.post enc Tryz.prog Tryz.f4 false true false false) := by
  refine returnsInHanded_of_change (C := Tryz.checked) own started (by kernel_rfl) Tryz.func4
    (ChangeSpec.witness6 (enc := enc) (C := Tryz.checked) false ⟨#[], #[.agg #[.int .i64 0, .int .i64 0, .slice none 0 0], .agg #[.string ByteArray.empty, .string ByteArray.empty], .agg #[.int .i64 0, .int .i64 0, .int .i64 0, .int .i64 0]], []⟩ 8 (by kernel_rfl) (by kernel_rfl) (by kernel_rfl) (by kernel_rfl)) ?_
  intro W base args ds gs before hval0 hW hcnd _
  have hval : ∀ (j : Nat) t v, Tryz.f4.params[j]? = some t → args[j]? = some v → Value.okWide Tryz.prog W .any base t v := hval0
  have hW' := hW
  obtain ⟨p, q, hA0, hV, rfl, hfz, hnd⟩ := hW
  have hA : DataW.TrodAll enc Tryz.prog W 0 (fun _ => true) true Tryz.f4.params.toList args.toList ds p := hA0
  rw [Tryz.params4] at hA hval
  obtain ⟨v0, vs0, d0, ds0, p0, q0, hargs, rfl, rfl, h0, r0⟩ := trodAll_cons hA
  obtain ⟨v1, vs1, d1, ds1, p1, q1, rfl, rfl, rfl, h1, r1⟩ := trodAll_cons r0
  obtain ⟨v2, vs2, d2, ds2, p2, q2, rfl, rfl, rfl, h2, r2⟩ := trodAll_cons r1
  obtain ⟨rfl, rfl, rfl⟩ := trodAll_nil r2
  obtain rfl : args = #[v0, v1, v2] := by cases args; simp_all
  obtain ⟨rfl, rfl⟩ := trodVars_none hV
  have k0 := h0
  have lt0 : ∀ x ∈ p0, x.block < W.heap.size := by obtain ⟨m, hm⟩ := k0; exact DataW.trod_lt m _ _ _ hm
  obtain ⟨z0, w0⟩ := use_open (hval 0 24 v0 rfl rfl) h0
  have k1 := h1
  have lt1 : ∀ x ∈ p1, x.block < W.heap.size := by obtain ⟨m, hm⟩ := k1; exact DataW.trod_lt m _ _ _ hm
  obtain ⟨z1, w1⟩ := node_open (hval 1 26 v1 rfl rfl) h1
  have k2 := h2
  have lt2 : ∀ x ∈ p2, x.block < W.heap.size := by obtain ⟨m, hm⟩ := k2; exact DataW.trod_lt m _ _ _ hm
  obtain ⟨z2, w2⟩ := lim_open (hval 2 43 v2 rfl rfl) h2
  clear hA0 hval0
  refine (walk _ z0 _ z1 _ z2 W w0 w1 w2).mono fun e W' ⟨he, bel⟩ => ?_
  subst he
  exact ⟨_, rfl, _, _, _, [], _, [], hW', trodAll_mk1 (shut_bool Tryz.underlying4 _), (trodAll_cons_mk (Below.trod laidOut (by kernel_rfl) (of_decide_eq_true (by kernel_rfl)) k0 bel lt0) (trodAll_cons_mk (Below.trod laidOut (by kernel_rfl) (of_decide_eq_true (by kernel_rfl)) k1 bel lt1) (trodAll_cons_mk (Below.trod laidOut (by kernel_rfl) (of_decide_eq_true (by kernel_rfl)) k2 bel lt2) trodAll_mk0))), rfl, bel.frame _, fun h => by cases h⟩

-- the given statement
theorem proved : Rows.RoomRootsSaid :=
  OpenClaim.holds_of_wide 4 Tryz.f4 rfl rfl rfl rfl rfl rfl rfl ⟨rfl, rfl, rfl, rfl, rfl⟩ rfl rfl rfl rfl rfl (by kernel_rfl) Tryz.func4 (by kernel_rfl)
    (of_decide_eq_true (by kernel_rfl)) (by unfold Func.isWrapper; first | (rw [if_pos (by decide +kernel)]; kernel_rfl) | (rw [if_neg (by decide +kernel)]; exact ⟨rfl, rfl⟩))
    (fun os started H enc _ => lifted os started H enc)
end Go.Proofs.YtglhjdbnpdoinaaGreat.roomRoots
