/- Of every use (no more of it, and no longer, than is looked at), all limits and every number: limits that are no lower let no less fit; just what there is fits, one less of anything does not; no condition. -/
import Derived.Test.YtglhjdbnpdoinaaGreatRows
import Derived.Test.YtglhjdbnpdoinaaGreatRooN
import Derived.ProofKit
import Derived.OpenShut
import Derived.ShutString
import Derived.ChangeOld
namespace Go.Proofs.YtglhjdbnpdoinaaGreat.roomFits
open Go.ChangeShapes Go.WideShapes Go.ChangeAt Go.RowKit
open Go.ChangeMaps (open_string shut_string)
set_option maxRecDepth 100000
set_option linter.unusedVariables false

set_option maxRecDepth 100000 in
set_option maxHeartbeats 6400000 in
theorem walk (M : Value) (u : Us) (V : Value) (l : Li) (a : Int) (w : World) (hM : UseIn w M u) (hV : LimIn V l) (wt : (Lit.int .u8 a).wf = true) :
    Calls Tryz.prog 7 #[M, V, .int .u8 a] w fun e w' => e = .returned (.bool true) ∧ Below w.heap.size w w' := by
  obtain ⟨⟨A, n, c, rfl, hk⟩, fm, fe, fs⟩ := hM
  obtain ⟨m, e, s0⟩ := u
  simp only at hk fm fe fs ⊢
  have hfw := fun w h => fewu_any m e A n c s0 w h fs
  have hsl := fewDs_len s0
  have hss := fewDs_small fs
  obtain ⟨s, hs⟩ : ∃ r, fewDs s0 = r := ⟨_, rfl⟩
  rw [hs] at hfw hsl hss
  obtain ⟨ns, hns⟩ : ∃ r, s.length = r := ⟨_, rfl⟩
  rw [hns] at hsl
  obtain ⟨rfl, fl1, fl2, fl3⟩ := hV
  obtain ⟨lt, lm, ln, le⟩ := l
  simp only at fl1 fl2 fl3 ⊢
  obtain ⟨fa0, fa1⟩ := bounds_u8U wt
  unfold fitI at fl1 fl2 fl3
  obtain ⟨W, gs, gl, hW, hg, hg', r0, r1, hb⟩ := boxUL w (.int .i64 m) (.int .i64 e) (.slice A n c) (.int .i64 lt) (.int .i64 lm) (.int .i64 ln) (.int .i64 le) 24 43
  obtain ⟨s0, s1, s2, f0, f1, f2⟩ := row3 r0
  have hgW := (Array.getElem?_eq_some_iff.1 r0).1
  have SK0 := Lib.hid (hk.below hb); have RS := Lib.hid r0; have RL := Lib.hid r1; have HFW := Lib.hid hfw; have HNS := Lib.hid hns; have HSS := Lib.hid hss; have HNSL := Lib.hid hsl
  have HLS := Lib.hid (show w.heap.size ≤ gs by omega); have HGS := Lib.hid hgW; have HLL := Lib.hid (show ¬ gl = gs by omega)
  have BB := Lib.hid hb; have HW := Lib.hid hW; have HG := Lib.hid hg; have HG' := Lib.hid hg'
  clear hk r0 r1 hfw hns hss hb hW hg hg' hs fm fe fs hgW wt
  go_enter Tryz.func7, Tryz.ntmps7
  go_upto_region 1 with fail
  rw [HW.out, HG'.out, HG.out]
  go_upto_region 2 with (go_at_call 10; refine (HFW.out _ SK0.out).mono ?_; rintro x w1 ⟨v1, rfl, hrow, hb1⟩; obtain ⟨aS, cS, rfl, hd⟩ := dfsO hrow; rw [HNS.out] at hrow hd ⊢; have HROW := Lib.hid hrow; replace RS := Lib.hid (row_keepB RS.out hb1); replace RL := Lib.hid (row_keepB RL.out hb1); replace BB := Lib.hid (below_step BB.out hb1); clear hb1 hrow hd s0 s1 s2 f0 f1 f2; obtain ⟨s0, s1, s2, f0, f1, f2⟩ := row3 RS.out)
  obtain ⟨w2, hw2⟩ : ∃ w2, ((w1.setCell ⟨gs, 0, none⟩ (.int .i64 m)).setCell ⟨gs, 1, none⟩ (.int .i64 e)).setCell ⟨gs, 2, none⟩ (.slice aS ns cS) = w2 := ⟨_, rfl⟩
  have hr2 := row3_set RS.out (.int .i64 m) (.int .i64 e) (.slice aS ns cS)
  have hr3 : (((w1.setCell ⟨gs, 0, none⟩ (.int .i64 m)).setCell ⟨gs, 1, none⟩ (.int .i64 e)).setCell ⟨gs, 2, none⟩ (.slice aS ns cS)).heap[gl]? = _ := row_farU (row_farU (row_farU RL.out HLL.out _) HLL.out _) HLL.out _
  have hrw := row_far3 HROW.out HGS.out (.int .i64 m) (.int .i64 e) (.slice aS ns cS)
  have hb2 : Below w.heap.size w (((w1.setCell ⟨gs, 0, none⟩ (.int .i64 m)).setCell ⟨gs, 1, none⟩ (.int .i64 e)).setCell ⟨gs, 2, none⟩ (.slice aS ns cS)) := ((BB.out.setCell HLS.out _).setCell HLS.out _).setCell HLS.out _
  rw [hw2] at hr2 hr3 hrw hb2 ⊢
  clear hw2 s0 s1 s2 f0 f1 f2
  obtain ⟨s0, s1, s2, -⟩ := row3 hr2
  obtain ⟨l0, l1, l2, l3⟩ := row4f hr3
  have SS := Lib.hid (show Dfs w2 (.slice aS ns cS) s from Dfs.owned (es := s) (by rw [HNS.out]; exact hrw))
  replace BB := Lib.hid hb2
  clear hr2 hr3 hrw hb2 HROW RS RL HFW SK0 HW HG HG' HGS
  have kc := fun w h => ucheck_any m e aS ns cS s w h HSS.out (by rw [HNS.out]; omega)
  have hl100 : s.length ≤ 100000 := by rw [HNS.out]; omega
  have HL1 := Lib.hid hl100
  clear hl100
  cases ho : okU m e s
  · rw [chkU_no ho] at kc
    have F1 := Lib.hid (fitE_no (l := ⟨lt, lm, ln, le⟩) (show Us.ok ⟨m, e, s⟩ = false from ho))
    have KC := Lib.hid kc
    clear kc ho
    go_wp2_with (first
        | (go_at_call 15; refine (KC.out _ SS.out).mono ?_; rintro e w9 ⟨rfl, hb1⟩; replace s0 := cell_keep s0 hb1; replace s1 := cell_keep s1 hb1; replace s2 := cell_keep s2 hb1; replace l0 := cell_keep l0 hb1; replace l1 := cell_keep l1 hb1; replace l2 := cell_keep l2 hb1; replace l3 := cell_keep l3 hb1; replace SS := Lib.hid (SS.out.below hb1); replace BB := Lib.hid (below_step BB.out hb1); clear hb1 )
        | (go_at_call 23; refine (fits_any _ _ _ _ m e aS ns cS s _ SS.out HSS.out HL1.out).mono ?_; rintro x w9 ⟨rfl, hb1⟩; (first | rw [F1.out]); replace s0 := cell_keep s0 hb1; replace s1 := cell_keep s1 hb1; replace s2 := cell_keep s2 hb1; replace l0 := cell_keep l0 hb1; replace l1 := cell_keep l1 hb1; replace l2 := cell_keep l2 hb1; replace l3 := cell_keep l3 hb1; replace SS := Lib.hid (SS.out.below hb1); replace BB := Lib.hid (below_step BB.out hb1); clear hb1)
        | (go_at_call 20; refine (rawake_any _).mono ?_; rintro e w9 ⟨rfl, hb1⟩; replace s0 := cell_keep s0 hb1; replace s1 := cell_keep s1 hb1; replace s2 := cell_keep s2 hb1; replace l0 := cell_keep l0 hb1; replace l1 := cell_keep l1 hb1; replace l2 := cell_keep l2 hb1; replace l3 := cell_keep l3 hb1; replace SS := Lib.hid (SS.out.below hb1); replace BB := Lib.hid (below_step BB.out hb1); clear hb1))
    go_ret
    exact ⟨rfl, BB.out⟩
  · rw [chkU_yes ho] at kc
    have rg := ok_ranges (show Us.ok ⟨m, e, s⟩ = true from ho)
    simp only at rg
    have hok : Us.ok ⟨m, e, s⟩ = true := ho
    obtain ⟨mA, hmA⟩ : ∃ z, m - 1 = z := ⟨_, rfl⟩
    obtain ⟨nB, hnB⟩ : ∃ z, (ns : Int) - 1 = z := ⟨_, rfl⟩
    obtain ⟨eC, heC⟩ : ∃ z, e - 1 = z := ⟨_, rfl⟩
    have V1 := Lib.hid (show wrap64 (m - 1) = mA by rw [← hmA]; exact IntWalk.wrap64_in _ (by omega))
    have V2 := Lib.hid (show wrap64 ((ns : Int) - 1) = nB by rw [← hnB]; exact IntWalk.wrap64_in _ (by omega))
    have V3 := Lib.hid (show wrap64 (e - 1) = eC by rw [← heC]; exact IntWalk.wrap64_in _ (by omega))
    have F0 := Lib.hid (show fitE ⟨0, m, ns, e⟩ ⟨m, e, s⟩ = 0 by rw [fitE_yes hok, fit_0]; exact ⟨Int.le_refl _, by rw [HNS.out]; exact Int.le_refl _, Int.le_refl _⟩)
    have FA := Lib.hid (show fitE ⟨0, mA, ns, e⟩ ⟨m, e, s⟩ = 8 by rw [fitE_yes hok]; unfold fitU; simp only; rw [if_pos (by omega)])
    have FB := Lib.hid (show fitE ⟨0, m, nB, e⟩ ⟨m, e, s⟩ = 9 by rw [fitE_yes hok]; unfold fitU; simp only; rw [HNS.out, if_neg (by omega), if_pos (by omega)])
    have FC := Lib.hid (show fitE ⟨0, m, ns, eC⟩ ⟨m, e, s⟩ = 10 by rw [fitE_yes hok]; unfold fitU; simp only; rw [HNS.out, if_neg (by omega), if_neg (by omega), if_pos (by omega)])
    have KC := Lib.hid kc
    have HOK := Lib.hid hok; have HNB1 := Lib.hid hnB
    clear kc ho hok hmA hnB heC rg
    go_upto_region 4 with (go_at_call 15; refine (KC.out _ SS.out).mono ?_; rintro e w9 ⟨rfl, hb1⟩; replace s0 := cell_keep s0 hb1; replace s1 := cell_keep s1 hb1; replace s2 := cell_keep s2 hb1; replace l0 := cell_keep l0 hb1; replace l1 := cell_keep l1 hb1; replace l2 := cell_keep l2 hb1; replace l3 := cell_keep l3 hb1; replace SS := Lib.hid (SS.out.below hb1); replace BB := Lib.hid (below_step BB.out hb1); clear hb1 )
    by_cases t : lm < 4611686018427387904
    · have tm := t
      have dlm : decide (lm < 4611686018427387904) = true := decide_eq_true t
      clear t
      by_cases t : ln < 4611686018427387904
      · have tn := t
        have dln : decide (ln < 4611686018427387904) = true := decide_eq_true t
        clear t
        by_cases t : le < 4611686018427387904
        · have te := t
          have dle : decide (le < 4611686018427387904) = true := decide_eq_true t
          clear t
          have u1' : wrap64 (lm + a) = lm + a := IntWalk.wrap64_in _ (by omega)
          have u2' : wrap64 (ln + a) = ln + a := IntWalk.wrap64_in _ (by omega)
          have u3' : wrap64 (le + a) = le + a := IntWalk.wrap64_in _ (by omega)
          have hup := fit_up (l := ⟨lt, lm, ln, le⟩) (k := ⟨0, lm + a, ln + a, le + a⟩) (u := ⟨m, e, s⟩)
          obtain ⟨xm, hxm⟩ : ∃ z, lm + a = z := ⟨_, rfl⟩
          obtain ⟨xn, hxn⟩ : ∃ z, ln + a = z := ⟨_, rfl⟩
          obtain ⟨xe, hxe⟩ : ∃ z, le + a = z := ⟨_, rfl⟩
          have HXM := Lib.hid hxm; have HXN := Lib.hid hxn; have HXE := Lib.hid hxe
          rw [hxm, hxn, hxe] at hup
          have HUP := Lib.hid (fun h => hup h (by simp only; omega) (by simp only; omega) (by simp only; omega))
          clear u1' u2' u3' hup hxm hxn hxe
          go_upto_region 6 with fail
          rw [HXM.out, HXN.out, HXE.out]
          obtain ⟨w6, hw6⟩ : ∃ v, v = w9 := ⟨_, rfl⟩
          subst hw6
          obtain ⟨WU, gp, hWU, hgp, rU, hb1⟩ := boxL w6 (.int .i64 0) (.int .i64 xm) (.int .i64 xn) (.int .i64 xe) 43
          rw [hWU, hgp]
          replace s0 := cell_keep s0 hb1; replace s1 := cell_keep s1 hb1; replace s2 := cell_keep s2 hb1; replace l0 := cell_keep l0 hb1; replace l1 := cell_keep l1 hb1; replace l2 := cell_keep l2 hb1; replace l3 := cell_keep l3 hb1; replace SS := Lib.hid (SS.out.below hb1); replace BB := Lib.hid (below_step BB.out hb1)
          obtain ⟨p0, p1, p2, p3⟩ := row4f rU
          clear hWU hgp rU hb1
          obtain ⟨zf, hzf⟩ : ∃ z, fitU ⟨lt, lm, ln, le⟩ ⟨m, e, s⟩ = z := ⟨_, rfl⟩
          have FL := Lib.hid (show fitE ⟨lt, lm, ln, le⟩ ⟨m, e, s⟩ = zf by rw [fitE_yes HOK.out]; exact hzf)
          by_cases hz : zf = 0
          · have FU := Lib.hid (show fitE ⟨0, xm, xn, xe⟩ ⟨m, e, s⟩ = 0 by rw [fitE_yes HOK.out]; exact HUP.out (hzf.trans hz))
            have d1 : (zf == 0) = true := by simp [hz]
            have d2 : zf = 0 := hz
            clear hzf hz
            subst d2
            go_upto_region 8 with (go_at_call 23; refine (fits_any _ _ _ _ m e aS ns cS s _ SS.out HSS.out HL1.out).mono ?_; rintro x w9 ⟨rfl, hb1⟩; (first | rw [FL.out] | rw [FU.out]); replace s0 := cell_keep s0 hb1; replace s1 := cell_keep s1 hb1; replace s2 := cell_keep s2 hb1; replace l0 := cell_keep l0 hb1; replace l1 := cell_keep l1 hb1; replace l2 := cell_keep l2 hb1; replace l3 := cell_keep l3 hb1; replace p0 := cell_keep p0 hb1; replace p1 := cell_keep p1 hb1; replace p2 := cell_keep p2 hb1; replace p3 := cell_keep p3 hb1; replace SS := Lib.hid (SS.out.below hb1); replace BB := Lib.hid (below_step BB.out hb1); clear hb1)
            clear p0 p1 p2 p3
            have HSZ8 := Lib.hid BB.out.size
            obtain ⟨w8, hw8⟩ : ∃ v, v = w9 := ⟨_, rfl⟩
            subst hw8
            go_upto_region 9 with fail
            obtain ⟨WJ, gj, hWJ, hgj, rJ, hb1⟩ := boxL w8 (.int .i64 0) (.int .i64 m) (.int .i64 (ns : Int)) (.int .i64 e) 43
            rw [hWJ, hgj]
            replace s0 := cell_keep s0 hb1; replace s1 := cell_keep s1 hb1; replace s2 := cell_keep s2 hb1; replace SS := Lib.hid (SS.out.below hb1); replace BB := Lib.hid (below_step BB.out hb1)
            have RJ := Lib.hid rJ
            have HLJ := Lib.hid (show w.heap.size ≤ gj by rw [← hgj]; exact HSZ8.out)
            clear hWJ hgj rJ hb1 l0 l1 l2 l3 HSZ8
            have RJ0 := RJ; have S0J := Lib.hid s0; have SS0J := SS
            go_upto_region 9 with fail
            refine rol_run (by kernel_rfl) [[], [], [], [], [], [], [0, 3, 4, 5], [0, 1, 3, 4, 5, 6], [0, 1, 2, 3, 4, 5, 6, 7]] (by kernel_rfl) [71, 72, 73, 9, 10, 11] [[], [], [], [], [], [], [0, 3], [1, 4], [2, 5]] [0, 0, 0, 2, 3, 4, 2, 3, 4] [0, 0, 0, 0, 0, 0, 2, 3, 4] [1000, 1000, 1000, 6, 7, 8, 1000, 1000, 1000] [.val 71 (.agg #[.int .i64 0, .int .i64 m, .int .i64 (ns : Int), .int .i64 e]), .val 72 (.agg #[.int .i64 0, .int .i64 m, .int .i64 (ns : Int), .int .i64 e]), .val 73 (.agg #[.int .i64 0, .int .i64 m, .int .i64 (ns : Int), .int .i64 e]), .mem 9 (cell4P WJ.heap.size 43 (.int .i64 0) (.int .i64 0) (.int .i64 0) (.int .i64 0)), .mem 10 (cell4P WJ.heap.size 43 (.int .i64 0) (.int .i64 0) (.int .i64 0) (.int .i64 0)), .mem 11 (cell4P WJ.heap.size 43 (.int .i64 0) (.int .i64 0) (.int .i64 0) (.int .i64 0)), .mem 9 (cell4P WJ.heap.size 43 (.int .i64 0) (.int .i64 m) (.int .i64 (ns : Int)) (.int .i64 e)), .mem 10 (cell4P WJ.heap.size 43 (.int .i64 0) (.int .i64 m) (.int .i64 (ns : Int)) (.int .i64 e)), .mem 11 (cell4P WJ.heap.size 43 (.int .i64 0) (.int .i64 m) (.int .i64 (ns : Int)) (.int .i64 e))] (by kernel_rfl) ?_ (WJ.heap.size) (WJ.heap.size) rfl (Below.refl _ _) rfl (fun _ => 0) ?_ ?_ ?_
            · intro j hj
              have hj3 : j < 9 := hj
              have hj2 : j = 0 ∨ j = 1 ∨ j = 2 ∨ j = 3 ∨ j = 4 ∨ j = 5 ∨ j = 6 ∨ j = 7 ∨ j = 8 := by omega
              clear hj hj3
              rcases hj2 with rfl | rfl | rfl | rfl | rfl | rfl | rfl | rfl | rfl
              · exact trivial
              · exact trivial
              · exact trivial
              · exact cell4P_near
              · exact cell4P_near
              · exact cell4P_near
              · exact cell4P_near
              · exact cell4P_near
              · exact cell4P_near
            · intro j hj0 hj
              exact absurd hj (Nat.not_lt.2 hj0)
            · intro i hi a wx who hG hF
              have hz : a.tmps.size = 111 := hG.size
              have hi3 : i < 9 := hi
              have hi2 : i = 0 ∨ i = 1 ∨ i = 2 ∨ i = 3 ∨ i = 4 ∨ i = 5 ∨ i = 6 ∨ i = 7 ∨ i = 8 := by omega
              clear hi hi3
              rcases hi2 with rfl | rfl | rfl | rfl | rfl | rfl | rfl | rfl | rfl
              · exact rol_val rfl rfl rfl (by rw [hz]; decide) (ex_load rfl (eval_slot ((hG.slots 8 (by decide)).trans rfl)) (ld_lim (row_keepB RJ.out hG.below))) hG.below
              · exact rol_val rfl rfl rfl (by rw [hz]; decide) (ex_load rfl (eval_slot ((hG.slots 8 (by decide)).trans rfl)) (ld_lim (row_keepB RJ.out hG.below))) hG.below
              · exact rol_val rfl rfl rfl (by rw [hz]; decide) (ex_load rfl (eval_slot ((hG.slots 8 (by decide)).trans rfl)) (ld_lim (row_keepB RJ.out hG.below))) hG.below
              · exact rol_alloc_lim rfl rfl rfl (by rw [hz]; decide) rfl hG.below (Nat.le_refl _) hG.new
              · exact rol_alloc_lim rfl rfl rfl (by rw [hz]; decide) rfl hG.below (Nat.le_refl _) hG.new
              · exact rol_alloc_lim rfl rfl rfl (by rw [hz]; decide) rfl hG.below (Nat.le_refl _) hG.new
              · exact rol_fill_lim rfl rfl rfl rfl (hF 3 (by decide)) (eval_slot (hF 0 (by decide))) hG.below (Nat.le_refl _)
              · exact rol_fill_lim rfl rfl rfl rfl (hF 4 (by decide)) (eval_slot (hF 1 (by decide))) hG.below (Nat.le_refl _)
              · exact rol_fill_lim rfl rfl rfl rfl (hF 5 (by decide)) (eval_slot (hF 2 (by decide))) hG.below (Nat.le_refl _)
            · intro a wx who hG hF
              have ha9 := hF 6 (of_decide_eq_true (by kernel_rfl)) (of_decide_eq_true (by kernel_rfl))
              have hb10 := hF 7 (of_decide_eq_true (by kernel_rfl)) (of_decide_eq_true (by kernel_rfl))
              have hc11 := hF 8 (of_decide_eq_true (by kernel_rfl)) (of_decide_eq_true (by kernel_rfl))
              obtain ⟨p9, ob9, hp9, hw9, ga, rfl, rfl, hna, hra⟩ := ha9
              obtain ⟨p10, ob10, hp10, hw10, gb, rfl, rfl, hnb, hrb⟩ := hb10
              obtain ⟨p11, ob11, hp11, hw11, gc, rfl, rfl, hnc, hrc⟩ := hc11
              have fv9 : a.tmps.getD 9 undef = .pointer (some ⟨ga, 0, none⟩) := eval_slot (s := 9) hp9
              have fv10 : a.tmps.getD 10 undef = .pointer (some ⟨gb, 0, none⟩) := eval_slot (s := 10) hp10
              have fv11 : a.tmps.getD 11 undef = .pointer (some ⟨gc, 0, none⟩) := eval_slot (s := 11) hp11
              have hab : ¬ ga = gb := fun q => by have h1 := (hw9 ga rfl).2; have h2 := (hw10 gb rfl).2; rw [q, h2] at h1; exact absurd h1 (by decide)
              have hac : ¬ ga = gc := fun q => by have h1 := (hw9 ga rfl).2; have h2 := (hw11 gc rfl).2; rw [q, h2] at h1; exact absurd h1 (by decide)
              have hbc : ¬ gb = gc := fun q => by have h1 := (hw10 gb rfl).2; have h2 := (hw11 gc rfl).2; rw [q, h2] at h1; exact absurd h1 (by decide)
              clear hp9 hp10 hp11 hw9 hw10 hw11
              have hbx := hG.below
              have hnx := hG.new
              rw [hG.frame]
              simp only [List.foldl_cons, List.foldl_nil, List.setIfInBounds_toArray, List.set_cons_zero, List.set_cons_succ]
              generalize a.tmps.getD 71 undef = u71
              generalize a.tmps.getD 72 undef = u72
              generalize a.tmps.getD 73 undef = u73
              rw [fv9]
              rw [fv10]
              rw [fv11]
              clear hF hG fv9 fv10 fv11
              replace RJ := Lib.hid (row_keepB RJ.out hbx)
              replace s0 := cell_keep s0 hbx; replace s1 := cell_keep s1 hbx; replace s2 := cell_keep s2 hbx; replace SS := Lib.hid (SS.out.below hbx); replace BB := Lib.hid (below_step BB.out hbx)
              obtain ⟨⟨a0, a1, a2, a3⟩, fa0, fa1, fa2, fa3⟩ := row4L hra
              obtain ⟨⟨b0, b1, b2, b3⟩, fb0, fb1, fb2, fb3⟩ := row4L hrb
              obtain ⟨⟨c0, c1, c2, c3⟩, fc0, fc1, fc2, fc3⟩ := row4L hrc
              have hjl := (Array.getElem?_eq_some_iff.1 RJ0.out).1
              have hsl9 := World.block_lt_of_cell? _ _ S0J.out
              simp only at hsl9
              have hwj : w.heap.size ≤ WJ.heap.size := by have := HLJ.out; omega
              obtain ⟨wv, hwv⟩ : ∃ v, v = wx := ⟨_, rfl⟩
              subst hwv
              have B2 := fun y => (cell_offU (w := wv) (i := 1) (j := 2) y (Ne.symm hab)).trans b2
              have FB2 := fun y => (froz_offU (w := wv) (i := 1) (j := 2) y (Ne.symm hab)).trans fb2
              have C3 := fun y y' => (cell_offU (w := wv.setCell ⟨ga, 1, none⟩ y) (i := 2) (j := 3) y' (Ne.symm hbc)).trans ((cell_offU (w := wv) (i := 1) (j := 3) y (Ne.symm hac)).trans c3)
              have FC3 := fun y y' => (froz_offU (w := wv.setCell ⟨ga, 1, none⟩ y) (i := 2) (j := 3) y' (Ne.symm hbc)).trans ((froz_offU (w := wv) (i := 1) (j := 3) y (Ne.symm hac)).trans fc3)
              have hsa : gs ≠ ga := by omega
              have hsb : gs ≠ gb := by omega
              have hsc : gs ≠ gc := by omega
              have hja : gj ≠ ga := by omega
              have hjb : gj ≠ gb := by omega
              have hjc : gj ≠ gc := by omega
              have v1' := V1.out
              have v2' := V2.out
              have v3' := V3.out
              have HA := Lib.hid (show w.heap.size ≤ ga by omega); have HB := Lib.hid (show w.heap.size ≤ gb by omega); have HC := Lib.hid (show w.heap.size ≤ gc by omega)
              have SN := Lib.hid hsa; have SM := Lib.hid hsb; have SO := Lib.hid hsc; have JN := Lib.hid hja; have JM := Lib.hid hjb; have JO := Lib.hid hjc; have AB := Lib.hid hab; have AC := Lib.hid hac; have BC := Lib.hid hbc; have HBJ := Lib.hid hbx; have HAJ := Lib.hid hna; have HBB := Lib.hid hnb; have HCC := Lib.hid hnc; have RA := Lib.hid hra; have RB := Lib.hid hrb; have RC := Lib.hid hrc
              have SSJ := SS0J.out
              clear hsa hsb hsc hja hjb hjc hab hac hbc hra hrb hrc hna hnb hnc hbx hnx RJ0 S0J hjl hsl9 hwj
              go_upto_region 13 with fail
              rw [HNB1.out]
              obtain ⟨wn, hwn⟩ : ∃ v, ((wv.setCell ⟨ga, 1, none⟩ (.int .i64 mA)).setCell ⟨gb, 2, none⟩ (.int .i64 nB)).setCell ⟨gc, 3, none⟩ (.int .i64 eC) = v := ⟨_, rfl⟩
              have ra9 : (((wv.setCell ⟨ga, 1, none⟩ (.int .i64 mA)).setCell ⟨gb, 2, none⟩ (.int .i64 nB)).setCell ⟨gc, 3, none⟩ (.int .i64 eC)).heap[ga]? = _ := row_farU (row_farU (row4_set1 RA.out _) AB.out _) AC.out _
              have rb9 : (((wv.setCell ⟨ga, 1, none⟩ (.int .i64 mA)).setCell ⟨gb, 2, none⟩ (.int .i64 nB)).setCell ⟨gc, 3, none⟩ (.int .i64 eC)).heap[gb]? = _ := row_farU (row4_set2 (row_farU RB.out (Ne.symm AB.out) _) _) BC.out _
              have rc9 : (((wv.setCell ⟨ga, 1, none⟩ (.int .i64 mA)).setCell ⟨gb, 2, none⟩ (.int .i64 nB)).setCell ⟨gc, 3, none⟩ (.int .i64 eC)).heap[gc]? = _ := row4_setc (row_farU (row_farU RC.out (Ne.symm AC.out) _) (Ne.symm BC.out) _) _
              have rj9 : (((wv.setCell ⟨ga, 1, none⟩ (.int .i64 mA)).setCell ⟨gb, 2, none⟩ (.int .i64 nB)).setCell ⟨gc, 3, none⟩ (.int .i64 eC)).heap[gj]? = _ := row_farU (row_farU (row_farU RJ.out JN.out _) JM.out _) JO.out _
              have hs0 : (((wv.setCell ⟨ga, 1, none⟩ (.int .i64 mA)).setCell ⟨gb, 2, none⟩ (.int .i64 nB)).setCell ⟨gc, 3, none⟩ (.int .i64 eC)).cell? ⟨gs, 0, none⟩ = _ := ((cell_offU _ SO.out).trans ((cell_offU _ SM.out).trans (cell_offU _ SN.out))).trans s0
              have hs1 : (((wv.setCell ⟨ga, 1, none⟩ (.int .i64 mA)).setCell ⟨gb, 2, none⟩ (.int .i64 nB)).setCell ⟨gc, 3, none⟩ (.int .i64 eC)).cell? ⟨gs, 1, none⟩ = _ := ((cell_offU _ SO.out).trans ((cell_offU _ SM.out).trans (cell_offU _ SN.out))).trans s1
              have hs2 : (((wv.setCell ⟨ga, 1, none⟩ (.int .i64 mA)).setCell ⟨gb, 2, none⟩ (.int .i64 nB)).setCell ⟨gc, 3, none⟩ (.int .i64 eC)).cell? ⟨gs, 2, none⟩ = _ := ((cell_offU _ SO.out).trans ((cell_offU _ SM.out).trans (cell_offU _ SN.out))).trans s2
              have hb9 : Below w.heap.size w (((wv.setCell ⟨ga, 1, none⟩ (.int .i64 mA)).setCell ⟨gb, 2, none⟩ (.int .i64 nB)).setCell ⟨gc, 3, none⟩ (.int .i64 eC)) := ((BB.out.setCell HA.out _).setCell HB.out _).setCell HC.out _
              have hss9 : Dfs (((wv.setCell ⟨ga, 1, none⟩ (.int .i64 mA)).setCell ⟨gb, 2, none⟩ (.int .i64 nB)).setCell ⟨gc, 3, none⟩ (.int .i64 eC)) (.slice aS ns cS) s := SSJ.below (((((HBJ.out).setCell HAJ.out _).setCell HBB.out _).setCell HCC.out _))
              rw [hwn] at ra9 rb9 rc9 rj9 hs0 hs1 hs2 hb9 hss9 ⊢
              clear hwn s0 s1 s2 a0 a1 a2 a3 fa0 fa1 fa2 fa3 b0 b1 b2 b3 fb0 fb1 fb2 fb3 c0 c1 c2 c3 fc0 fc1 fc2 fc3 B2 FB2 C3 FC3
              have s0 := hs0
              have s1 := hs1
              have s2 := hs2
              obtain ⟨a0, a1, a2, a3⟩ := row4f ra9
              obtain ⟨b0, b1, b2, b3⟩ := row4f rb9
              obtain ⟨c0, c1, c2, c3⟩ := row4f rc9
              obtain ⟨j0, j1, j2, j3⟩ := row4f rj9
              replace BB := Lib.hid hb9; replace SS := Lib.hid hss9
              clear hs0 hs1 hs2 ra9 rb9 rc9 rj9 hb9 hss9 RA RB RC RJ SSJ
              go_wp2_with (first
                  | (go_at_call 23; refine (fits_any _ _ _ _ m e aS ns cS s _ SS.out HSS.out HL1.out).mono ?_; rintro x w9 ⟨rfl, hb1⟩; (first | rw [F0.out] | rw [FA.out] | rw [FB.out] | rw [FC.out]); replace s0 := cell_keep s0 hb1; replace s1 := cell_keep s1 hb1; replace s2 := cell_keep s2 hb1; replace a0 := cell_keep a0 hb1; replace a1 := cell_keep a1 hb1; replace a2 := cell_keep a2 hb1; replace a3 := cell_keep a3 hb1; replace b0 := cell_keep b0 hb1; replace b1 := cell_keep b1 hb1; replace b2 := cell_keep b2 hb1; replace b3 := cell_keep b3 hb1; replace c0 := cell_keep c0 hb1; replace c1 := cell_keep c1 hb1; replace c2 := cell_keep c2 hb1; replace c3 := cell_keep c3 hb1; replace j0 := cell_keep j0 hb1; replace j1 := cell_keep j1 hb1; replace j2 := cell_keep j2 hb1; replace j3 := cell_keep j3 hb1; replace SS := Lib.hid (SS.out.below hb1); replace BB := Lib.hid (below_step BB.out hb1); clear hb1)
                  | (go_at_call 20; refine (rawake_any _).mono ?_; rintro e w9 ⟨rfl, hb1⟩; replace s0 := cell_keep s0 hb1; replace s1 := cell_keep s1 hb1; replace s2 := cell_keep s2 hb1; replace a0 := cell_keep a0 hb1; replace a1 := cell_keep a1 hb1; replace a2 := cell_keep a2 hb1; replace a3 := cell_keep a3 hb1; replace b0 := cell_keep b0 hb1; replace b1 := cell_keep b1 hb1; replace b2 := cell_keep b2 hb1; replace b3 := cell_keep b3 hb1; replace c0 := cell_keep c0 hb1; replace c1 := cell_keep c1 hb1; replace c2 := cell_keep c2 hb1; replace c3 := cell_keep c3 hb1; replace j0 := cell_keep j0 hb1; replace j1 := cell_keep j1 hb1; replace j2 := cell_keep j2 hb1; replace j3 := cell_keep j3 hb1; replace SS := Lib.hid (SS.out.below hb1); replace BB := Lib.hid (below_step BB.out hb1); clear hb1))
              go_ret
              exact ⟨rfl, BB.out⟩
          · have d1 : (zf == 0) = false := by simp [hz]
            clear hzf hz
            go_upto_region 8 with (go_at_call 23; refine (fits_any _ _ _ _ m e aS ns cS s _ SS.out HSS.out HL1.out).mono ?_; rintro x w9 ⟨rfl, hb1⟩; (first | rw [FL.out]); replace s0 := cell_keep s0 hb1; replace s1 := cell_keep s1 hb1; replace s2 := cell_keep s2 hb1; replace l0 := cell_keep l0 hb1; replace l1 := cell_keep l1 hb1; replace l2 := cell_keep l2 hb1; replace l3 := cell_keep l3 hb1; replace p0 := cell_keep p0 hb1; replace p1 := cell_keep p1 hb1; replace p2 := cell_keep p2 hb1; replace p3 := cell_keep p3 hb1; replace SS := Lib.hid (SS.out.below hb1); replace BB := Lib.hid (below_step BB.out hb1); clear hb1)
            clear p0 p1 p2 p3
            have HSZ8 := Lib.hid BB.out.size
            obtain ⟨w8, hw8⟩ : ∃ v, v = w9 := ⟨_, rfl⟩
            subst hw8
            go_upto_region 9 with fail
            obtain ⟨WJ, gj, hWJ, hgj, rJ, hb1⟩ := boxL w8 (.int .i64 0) (.int .i64 m) (.int .i64 (ns : Int)) (.int .i64 e) 43
            rw [hWJ, hgj]
            replace s0 := cell_keep s0 hb1; replace s1 := cell_keep s1 hb1; replace s2 := cell_keep s2 hb1; replace SS := Lib.hid (SS.out.below hb1); replace BB := Lib.hid (below_step BB.out hb1)
            have RJ := Lib.hid rJ
            have HLJ := Lib.hid (show w.heap.size ≤ gj by rw [← hgj]; exact HSZ8.out)
            clear hWJ hgj rJ hb1 l0 l1 l2 l3 HSZ8
            have RJ0 := RJ; have S0J := Lib.hid s0; have SS0J := SS
            go_upto_region 9 with fail
            refine rol_run (by kernel_rfl) [[], [], [], [], [], [], [0, 3, 4, 5], [0, 1, 3, 4, 5, 6], [0, 1, 2, 3, 4, 5, 6, 7]] (by kernel_rfl) [71, 72, 73, 9, 10, 11] [[], [], [], [], [], [], [0, 3], [1, 4], [2, 5]] [0, 0, 0, 2, 3, 4, 2, 3, 4] [0, 0, 0, 0, 0, 0, 2, 3, 4] [1000, 1000, 1000, 6, 7, 8, 1000, 1000, 1000] [.val 71 (.agg #[.int .i64 0, .int .i64 m, .int .i64 (ns : Int), .int .i64 e]), .val 72 (.agg #[.int .i64 0, .int .i64 m, .int .i64 (ns : Int), .int .i64 e]), .val 73 (.agg #[.int .i64 0, .int .i64 m, .int .i64 (ns : Int), .int .i64 e]), .mem 9 (cell4P WJ.heap.size 43 (.int .i64 0) (.int .i64 0) (.int .i64 0) (.int .i64 0)), .mem 10 (cell4P WJ.heap.size 43 (.int .i64 0) (.int .i64 0) (.int .i64 0) (.int .i64 0)), .mem 11 (cell4P WJ.heap.size 43 (.int .i64 0) (.int .i64 0) (.int .i64 0) (.int .i64 0)), .mem 9 (cell4P WJ.heap.size 43 (.int .i64 0) (.int .i64 m) (.int .i64 (ns : Int)) (.int .i64 e)), .mem 10 (cell4P WJ.heap.size 43 (.int .i64 0) (.int .i64 m) (.int .i64 (ns : Int)) (.int .i64 e)), .mem 11 (cell4P WJ.heap.size 43 (.int .i64 0) (.int .i64 m) (.int .i64 (ns : Int)) (.int .i64 e))] (by kernel_rfl) ?_ (WJ.heap.size) (WJ.heap.size) rfl (Below.refl _ _) rfl (fun _ => 0) ?_ ?_ ?_
            · intro j hj
              have hj3 : j < 9 := hj
              have hj2 : j = 0 ∨ j = 1 ∨ j = 2 ∨ j = 3 ∨ j = 4 ∨ j = 5 ∨ j = 6 ∨ j = 7 ∨ j = 8 := by omega
              clear hj hj3
              rcases hj2 with rfl | rfl | rfl | rfl | rfl | rfl | rfl | rfl | rfl
              · exact trivial
              · exact trivial
              · exact trivial
              · exact cell4P_near
              · exact cell4P_near
              · exact cell4P_near
              · exact cell4P_near
              · exact cell4P_near
              · exact cell4P_near
            · intro j hj0 hj
              exact absurd hj (Nat.not_lt.2 hj0)
            · intro i hi a wx who hG hF
              have hz : a.tmps.size = 111 := hG.size
              have hi3 : i < 9 := hi
              have hi2 : i = 0 ∨ i = 1 ∨ i = 2 ∨ i = 3 ∨ i = 4 ∨ i = 5 ∨ i = 6 ∨ i = 7 ∨ i = 8 := by omega
              clear hi hi3
              rcases hi2 with rfl | rfl | rfl | rfl | rfl | rfl | rfl | rfl | rfl
              · exact rol_val rfl rfl rfl (by rw [hz]; decide) (ex_load rfl (eval_slot ((hG.slots 8 (by decide)).trans rfl)) (ld_lim (row_keepB RJ.out hG.below))) hG.below
              · exact rol_val rfl rfl rfl (by rw [hz]; decide) (ex_load rfl (eval_slot ((hG.slots 8 (by decide)).trans rfl)) (ld_lim (row_keepB RJ.out hG.below))) hG.below
              · exact rol_val rfl rfl rfl (by rw [hz]; decide) (ex_load rfl (eval_slot ((hG.slots 8 (by decide)).trans rfl)) (ld_lim (row_keepB RJ.out hG.below))) hG.below
              · exact rol_alloc_lim rfl rfl rfl (by rw [hz]; decide) rfl hG.below (Nat.le_refl _) hG.new
              · exact rol_alloc_lim rfl rfl rfl (by rw [hz]; decide) rfl hG.below (Nat.le_refl _) hG.new
              · exact rol_alloc_lim rfl rfl rfl (by rw [hz]; decide) rfl hG.below (Nat.le_refl _) hG.new
              · exact rol_fill_lim rfl rfl rfl rfl (hF 3 (by decide)) (eval_slot (hF 0 (by decide))) hG.below (Nat.le_refl _)
              · exact rol_fill_lim rfl rfl rfl rfl (hF 4 (by decide)) (eval_slot (hF 1 (by decide))) hG.below (Nat.le_refl _)
              · exact rol_fill_lim rfl rfl rfl rfl (hF 5 (by decide)) (eval_slot (hF 2 (by decide))) hG.below (Nat.le_refl _)
            · intro a wx who hG hF
              have ha9 := hF 6 (of_decide_eq_true (by kernel_rfl)) (of_decide_eq_true (by kernel_rfl))
              have hb10 := hF 7 (of_decide_eq_true (by kernel_rfl)) (of_decide_eq_true (by kernel_rfl))
              have hc11 := hF 8 (of_decide_eq_true (by kernel_rfl)) (of_decide_eq_true (by kernel_rfl))
              obtain ⟨p9, ob9, hp9, hw9, ga, rfl, rfl, hna, hra⟩ := ha9
              obtain ⟨p10, ob10, hp10, hw10, gb, rfl, rfl, hnb, hrb⟩ := hb10
              obtain ⟨p11, ob11, hp11, hw11, gc, rfl, rfl, hnc, hrc⟩ := hc11
              have fv9 : a.tmps.getD 9 undef = .pointer (some ⟨ga, 0, none⟩) := eval_slot (s := 9) hp9
              have fv10 : a.tmps.getD 10 undef = .pointer (some ⟨gb, 0, none⟩) := eval_slot (s := 10) hp10
              have fv11 : a.tmps.getD 11 undef = .pointer (some ⟨gc, 0, none⟩) := eval_slot (s := 11) hp11
              have hab : ¬ ga = gb := fun q => by have h1 := (hw9 ga rfl).2; have h2 := (hw10 gb rfl).2; rw [q, h2] at h1; exact absurd h1 (by decide)
              have hac : ¬ ga = gc := fun q => by have h1 := (hw9 ga rfl).2; have h2 := (hw11 gc rfl).2; rw [q, h2] at h1; exact absurd h1 (by decide)
              have hbc : ¬ gb = gc := fun q => by have h1 := (hw10 gb rfl).2; have h2 := (hw11 gc rfl).2; rw [q, h2] at h1; exact absurd h1 (by decide)
              clear hp9 hp10 hp11 hw9 hw10 hw11
              have hbx := hG.below
              have hnx := hG.new
              rw [hG.frame]
              simp only [List.foldl_cons, List.foldl_nil, List.setIfInBounds_toArray, List.set_cons_zero, List.set_cons_succ]
              generalize a.tmps.getD 71 undef = u71
              generalize a.tmps.getD 72 undef = u72
              generalize a.tmps.getD 73 undef = u73
              rw [fv9]
              rw [fv10]
              rw [fv11]
              clear hF hG fv9 fv10 fv11
              replace RJ := Lib.hid (row_keepB RJ.out hbx)
              replace s0 := cell_keep s0 hbx; replace s1 := cell_keep s1 hbx; replace s2 := cell_keep s2 hbx; replace SS := Lib.hid (SS.out.below hbx); replace BB := Lib.hid (below_step BB.out hbx)
              obtain ⟨⟨a0, a1, a2, a3⟩, fa0, fa1, fa2, fa3⟩ := row4L hra
              obtain ⟨⟨b0, b1, b2, b3⟩, fb0, fb1, fb2, fb3⟩ := row4L hrb
              obtain ⟨⟨c0, c1, c2, c3⟩, fc0, fc1, fc2, fc3⟩ := row4L hrc
              have hjl := (Array.getElem?_eq_some_iff.1 RJ0.out).1
              have hsl9 := World.block_lt_of_cell? _ _ S0J.out
              simp only at hsl9
              have hwj : w.heap.size ≤ WJ.heap.size := by have := HLJ.out; omega
              obtain ⟨wv, hwv⟩ : ∃ v, v = wx := ⟨_, rfl⟩
              subst hwv
              have B2 := fun y => (cell_offU (w := wv) (i := 1) (j := 2) y (Ne.symm hab)).trans b2
              have FB2 := fun y => (froz_offU (w := wv) (i := 1) (j := 2) y (Ne.symm hab)).trans fb2
              have C3 := fun y y' => (cell_offU (w := wv.setCell ⟨ga, 1, none⟩ y) (i := 2) (j := 3) y' (Ne.symm hbc)).trans ((cell_offU (w := wv) (i := 1) (j := 3) y (Ne.symm hac)).trans c3)
              have FC3 := fun y y' => (froz_offU (w := wv.setCell ⟨ga, 1, none⟩ y) (i := 2) (j := 3) y' (Ne.symm hbc)).trans ((froz_offU (w := wv) (i := 1) (j := 3) y (Ne.symm hac)).trans fc3)
              have hsa : gs ≠ ga := by omega
              have hsb : gs ≠ gb := by omega
              have hsc : gs ≠ gc := by omega
              have hja : gj ≠ ga := by omega
              have hjb : gj ≠ gb := by omega
              have hjc : gj ≠ gc := by omega
              have v1' := V1.out
              have v2' := V2.out
              have v3' := V3.out
              have HA := Lib.hid (show w.heap.size ≤ ga by omega); have HB := Lib.hid (show w.heap.size ≤ gb by omega); have HC := Lib.hid (show w.heap.size ≤ gc by omega)
              have SN := Lib.hid hsa; have SM := Lib.hid hsb; have SO := Lib.hid hsc; have JN := Lib.hid hja; have JM := Lib.hid hjb; have JO := Lib.hid hjc; have AB := Lib.hid hab; have AC := Lib.hid hac; have BC := Lib.hid hbc; have HBJ := Lib.hid hbx; have HAJ := Lib.hid hna; have HBB := Lib.hid hnb; have HCC := Lib.hid hnc; have RA := Lib.hid hra; have RB := Lib.hid hrb; have RC := Lib.hid hrc
              have SSJ := SS0J.out
              clear hsa hsb hsc hja hjb hjc hab hac hbc hra hrb hrc hna hnb hnc hbx hnx RJ0 S0J hjl hsl9 hwj
              go_upto_region 13 with fail
              rw [HNB1.out]
              obtain ⟨wn, hwn⟩ : ∃ v, ((wv.setCell ⟨ga, 1, none⟩ (.int .i64 mA)).setCell ⟨gb, 2, none⟩ (.int .i64 nB)).setCell ⟨gc, 3, none⟩ (.int .i64 eC) = v := ⟨_, rfl⟩
              have ra9 : (((wv.setCell ⟨ga, 1, none⟩ (.int .i64 mA)).setCell ⟨gb, 2, none⟩ (.int .i64 nB)).setCell ⟨gc, 3, none⟩ (.int .i64 eC)).heap[ga]? = _ := row_farU (row_farU (row4_set1 RA.out _) AB.out _) AC.out _
              have rb9 : (((wv.setCell ⟨ga, 1, none⟩ (.int .i64 mA)).setCell ⟨gb, 2, none⟩ (.int .i64 nB)).setCell ⟨gc, 3, none⟩ (.int .i64 eC)).heap[gb]? = _ := row_farU (row4_set2 (row_farU RB.out (Ne.symm AB.out) _) _) BC.out _
              have rc9 : (((wv.setCell ⟨ga, 1, none⟩ (.int .i64 mA)).setCell ⟨gb, 2, none⟩ (.int .i64 nB)).setCell ⟨gc, 3, none⟩ (.int .i64 eC)).heap[gc]? = _ := row4_setc (row_farU (row_farU RC.out (Ne.symm AC.out) _) (Ne.symm BC.out) _) _
              have rj9 : (((wv.setCell ⟨ga, 1, none⟩ (.int .i64 mA)).setCell ⟨gb, 2, none⟩ (.int .i64 nB)).setCell ⟨gc, 3, none⟩ (.int .i64 eC)).heap[gj]? = _ := row_farU (row_farU (row_farU RJ.out JN.out _) JM.out _) JO.out _
              have hs0 : (((wv.setCell ⟨ga, 1, none⟩ (.int .i64 mA)).setCell ⟨gb, 2, none⟩ (.int .i64 nB)).setCell ⟨gc, 3, none⟩ (.int .i64 eC)).cell? ⟨gs, 0, none⟩ = _ := ((cell_offU _ SO.out).trans ((cell_offU _ SM.out).trans (cell_offU _ SN.out))).trans s0
              have hs1 : (((wv.setCell ⟨ga, 1, none⟩ (.int .i64 mA)).setCell ⟨gb, 2, none⟩ (.int .i64 nB)).setCell ⟨gc, 3, none⟩ (.int .i64 eC)).cell? ⟨gs, 1, none⟩ = _ := ((cell_offU _ SO.out).trans ((cell_offU _ SM.out).trans (cell_offU _ SN.out))).trans s1
              have hs2 : (((wv.setCell ⟨ga, 1, none⟩ (.int .i64 mA)).setCell ⟨gb, 2, none⟩ (.int .i64 nB)).setCell ⟨gc, 3, none⟩ (.int .i64 eC)).cell? ⟨gs, 2, none⟩ = _ := ((cell_offU _ SO.out).trans ((cell_offU _ SM.out).trans (cell_offU _ SN.out))).trans s2
              have hb9 : Below w.heap.size w (((wv.setCell ⟨ga, 1, none⟩ (.int .i64 mA)).setCell ⟨gb, 2, none⟩ (.int .i64 nB)).setCell ⟨gc, 3, none⟩ (.int .i64 eC)) := ((BB.out.setCell HA.out _).setCell HB.out _).setCell HC.out _
              have hss9 : Dfs (((wv.setCell ⟨ga, 1, none⟩ (.int .i64 mA)).setCell ⟨gb, 2, none⟩ (.int .i64 nB)).setCell ⟨gc, 3, none⟩ (.int .i64 eC)) (.slice aS ns cS) s := SSJ.below (((((HBJ.out).setCell HAJ.out _).setCell HBB.out _).setCell HCC.out _))
              rw [hwn] at ra9 rb9 rc9 rj9 hs0 hs1 hs2 hb9 hss9 ⊢
              clear hwn s0 s1 s2 a0 a1 a2 a3 fa0 fa1 fa2 fa3 b0 b1 b2 b3 fb0 fb1 fb2 fb3 c0 c1 c2 c3 fc0 fc1 fc2 fc3 B2 FB2 C3 FC3
              have s0 := hs0
              have s1 := hs1
              have s2 := hs2
              obtain ⟨a0, a1, a2, a3⟩ := row4f ra9
              obtain ⟨b0, b1, b2, b3⟩ := row4f rb9
              obtain ⟨c0, c1, c2, c3⟩ := row4f rc9
              obtain ⟨j0, j1, j2, j3⟩ := row4f rj9
              replace BB := Lib.hid hb9; replace SS := Lib.hid hss9
              clear hs0 hs1 hs2 ra9 rb9 rc9 rj9 hb9 hss9 RA RB RC RJ SSJ
              go_wp2_with (first
                  | (go_at_call 23; refine (fits_any _ _ _ _ m e aS ns cS s _ SS.out HSS.out HL1.out).mono ?_; rintro x w9 ⟨rfl, hb1⟩; (first | rw [F0.out] | rw [FA.out] | rw [FB.out] | rw [FC.out]); replace s0 := cell_keep s0 hb1; replace s1 := cell_keep s1 hb1; replace s2 := cell_keep s2 hb1; replace a0 := cell_keep a0 hb1; replace a1 := cell_keep a1 hb1; replace a2 := cell_keep a2 hb1; replace a3 := cell_keep a3 hb1; replace b0 := cell_keep b0 hb1; replace b1 := cell_keep b1 hb1; replace b2 := cell_keep b2 hb1; replace b3 := cell_keep b3 hb1; replace c0 := cell_keep c0 hb1; replace c1 := cell_keep c1 hb1; replace c2 := cell_keep c2 hb1; replace c3 := cell_keep c3 hb1; replace j0 := cell_keep j0 hb1; replace j1 := cell_keep j1 hb1; replace j2 := cell_keep j2 hb1; replace j3 := cell_keep j3 hb1; replace SS := Lib.hid (SS.out.below hb1); replace BB := Lib.hid (below_step BB.out hb1); clear hb1)
                  | (go_at_call 20; refine (rawake_any _).mono ?_; rintro e w9 ⟨rfl, hb1⟩; replace s0 := cell_keep s0 hb1; replace s1 := cell_keep s1 hb1; replace s2 := cell_keep s2 hb1; replace a0 := cell_keep a0 hb1; replace a1 := cell_keep a1 hb1; replace a2 := cell_keep a2 hb1; replace a3 := cell_keep a3 hb1; replace b0 := cell_keep b0 hb1; replace b1 := cell_keep b1 hb1; replace b2 := cell_keep b2 hb1; replace b3 := cell_keep b3 hb1; replace c0 := cell_keep c0 hb1; replace c1 := cell_keep c1 hb1; replace c2 := cell_keep c2 hb1; replace c3 := cell_keep c3 hb1; replace j0 := cell_keep j0 hb1; replace j1 := cell_keep j1 hb1; replace j2 := cell_keep j2 hb1; replace j3 := cell_keep j3 hb1; replace SS := Lib.hid (SS.out.below hb1); replace BB := Lib.hid (below_step BB.out hb1); clear hb1))
              go_ret
              exact ⟨rfl, BB.out⟩
        · have dle : decide (le < 4611686018427387904) = false := decide_eq_false t
          clear t
          have HSZ8 := Lib.hid BB.out.size
          obtain ⟨w8, hw8⟩ : ∃ v, v = w9 := ⟨_, rfl⟩
          subst hw8
          go_upto_region 9 with fail
          obtain ⟨WJ, gj, hWJ, hgj, rJ, hb1⟩ := boxL w8 (.int .i64 0) (.int .i64 m) (.int .i64 (ns : Int)) (.int .i64 e) 43
          rw [hWJ, hgj]
          replace s0 := cell_keep s0 hb1; replace s1 := cell_keep s1 hb1; replace s2 := cell_keep s2 hb1; replace SS := Lib.hid (SS.out.below hb1); replace BB := Lib.hid (below_step BB.out hb1)
          have RJ := Lib.hid rJ
          have HLJ := Lib.hid (show w.heap.size ≤ gj by rw [← hgj]; exact HSZ8.out)
          clear hWJ hgj rJ hb1 l0 l1 l2 l3 HSZ8
          have RJ0 := RJ; have S0J := Lib.hid s0; have SS0J := SS
          go_upto_region 9 with fail
          refine rol_run (by kernel_rfl) [[], [], [], [], [], [], [0, 3, 4, 5], [0, 1, 3, 4, 5, 6], [0, 1, 2, 3, 4, 5, 6, 7]] (by kernel_rfl) [71, 72, 73, 9, 10, 11] [[], [], [], [], [], [], [0, 3], [1, 4], [2, 5]] [0, 0, 0, 2, 3, 4, 2, 3, 4] [0, 0, 0, 0, 0, 0, 2, 3, 4] [1000, 1000, 1000, 6, 7, 8, 1000, 1000, 1000] [.val 71 (.agg #[.int .i64 0, .int .i64 m, .int .i64 (ns : Int), .int .i64 e]), .val 72 (.agg #[.int .i64 0, .int .i64 m, .int .i64 (ns : Int), .int .i64 e]), .val 73 (.agg #[.int .i64 0, .int .i64 m, .int .i64 (ns : Int), .int .i64 e]), .mem 9 (cell4P WJ.heap.size 43 (.int .i64 0) (.int .i64 0) (.int .i64 0) (.int .i64 0)), .mem 10 (cell4P WJ.heap.size 43 (.int .i64 0) (.int .i64 0) (.int .i64 0) (.int .i64 0)), .mem 11 (cell4P WJ.heap.size 43 (.int .i64 0) (.int .i64 0) (.int .i64 0) (.int .i64 0)), .mem 9 (cell4P WJ.heap.size 43 (.int .i64 0) (.int .i64 m) (.int .i64 (ns : Int)) (.int .i64 e)), .mem 10 (cell4P WJ.heap.size 43 (.int .i64 0) (.int .i64 m) (.int .i64 (ns : Int)) (.int .i64 e)), .mem 11 (cell4P WJ.heap.size 43 (.int .i64 0) (.int .i64 m) (.int .i64 (ns : Int)) (.int .i64 e))] (by kernel_rfl) ?_ (WJ.heap.size) (WJ.heap.size) rfl (Below.refl _ _) rfl (fun _ => 0) ?_ ?_ ?_
          · intro j hj
            have hj3 : j < 9 := hj
            have hj2 : j = 0 ∨ j = 1 ∨ j = 2 ∨ j = 3 ∨ j = 4 ∨ j = 5 ∨ j = 6 ∨ j = 7 ∨ j = 8 := by omega
            clear hj hj3
            rcases hj2 with rfl | rfl | rfl | rfl | rfl | rfl | rfl | rfl | rfl
            · exact trivial
            · exact trivial
            · exact trivial
            · exact cell4P_near
            · exact cell4P_near
            · exact cell4P_near
            · exact cell4P_near
            · exact cell4P_near
            · exact cell4P_near
          · intro j hj0 hj
            exact absurd hj (Nat.not_lt.2 hj0)
          · intro i hi a wx who hG hF
            have hz : a.tmps.size = 111 := hG.size
            have hi3 : i < 9 := hi
            have hi2 : i = 0 ∨ i = 1 ∨ i = 2 ∨ i = 3 ∨ i = 4 ∨ i = 5 ∨ i = 6 ∨ i = 7 ∨ i = 8 := by omega
            clear hi hi3
            rcases hi2 with rfl | rfl | rfl | rfl | rfl | rfl | rfl | rfl | rfl
            · exact rol_val rfl rfl rfl (by rw [hz]; decide) (ex_load rfl (eval_slot ((hG.slots 8 (by decide)).trans rfl)) (ld_lim (row_keepB RJ.out hG.below))) hG.below
            · exact rol_val rfl rfl rfl (by rw [hz]; decide) (ex_load rfl (eval_slot ((hG.slots 8 (by decide)).trans rfl)) (ld_lim (row_keepB RJ.out hG.below))) hG.below
            · exact rol_val rfl rfl rfl (by rw [hz]; decide) (ex_load rfl (eval_slot ((hG.slots 8 (by decide)).trans rfl)) (ld_lim (row_keepB RJ.out hG.below))) hG.below
            · exact rol_alloc_lim rfl rfl rfl (by rw [hz]; decide) rfl hG.below (Nat.le_refl _) hG.new
            · exact rol_alloc_lim rfl rfl rfl (by rw [hz]; decide) rfl hG.below (Nat.le_refl _) hG.new
            · exact rol_alloc_lim rfl rfl rfl (by rw [hz]; decide) rfl hG.below (Nat.le_refl _) hG.new
            · exact rol_fill_lim rfl rfl rfl rfl (hF 3 (by decide)) (eval_slot (hF 0 (by decide))) hG.below (Nat.le_refl _)
            · exact rol_fill_lim rfl rfl rfl rfl (hF 4 (by decide)) (eval_slot (hF 1 (by decide))) hG.below (Nat.le_refl _)
            · exact rol_fill_lim rfl rfl rfl rfl (hF 5 (by decide)) (eval_slot (hF 2 (by decide))) hG.below (Nat.le_refl _)
          · intro a wx who hG hF
            have ha9 := hF 6 (of_decide_eq_true (by kernel_rfl)) (of_decide_eq_true (by kernel_rfl))
            have hb10 := hF 7 (of_decide_eq_true (by kernel_rfl)) (of_decide_eq_true (by kernel_rfl))
            have hc11 := hF 8 (of_decide_eq_true (by kernel_rfl)) (of_decide_eq_true (by kernel_rfl))
            obtain ⟨p9, ob9, hp9, hw9, ga, rfl, rfl, hna, hra⟩ := ha9
            obtain ⟨p10, ob10, hp10, hw10, gb, rfl, rfl, hnb, hrb⟩ := hb10
            obtain ⟨p11, ob11, hp11, hw11, gc, rfl, rfl, hnc, hrc⟩ := hc11
            have fv9 : a.tmps.getD 9 undef = .pointer (some ⟨ga, 0, none⟩) := eval_slot (s := 9) hp9
            have fv10 : a.tmps.getD 10 undef = .pointer (some ⟨gb, 0, none⟩) := eval_slot (s := 10) hp10
            have fv11 : a.tmps.getD 11 undef = .pointer (some ⟨gc, 0, none⟩) := eval_slot (s := 11) hp11
            have hab : ¬ ga = gb := fun q => by have h1 := (hw9 ga rfl).2; have h2 := (hw10 gb rfl).2; rw [q, h2] at h1; exact absurd h1 (by decide)
            have hac : ¬ ga = gc := fun q => by have h1 := (hw9 ga rfl).2; have h2 := (hw11 gc rfl).2; rw [q, h2] at h1; exact absurd h1 (by decide)
            have hbc : ¬ gb = gc := fun q => by have h1 := (hw10 gb rfl).2; have h2 := (hw11 gc rfl).2; rw [q, h2] at h1; exact absurd h1 (by decide)
            clear hp9 hp10 hp11 hw9 hw10 hw11
            have hbx := hG.below
            have hnx := hG.new
            rw [hG.frame]
            simp only [List.foldl_cons, List.foldl_nil, List.setIfInBounds_toArray, List.set_cons_zero, List.set_cons_succ]
            generalize a.tmps.getD 71 undef = u71
            generalize a.tmps.getD 72 undef = u72
            generalize a.tmps.getD 73 undef = u73
            rw [fv9]
            rw [fv10]
            rw [fv11]
            clear hF hG fv9 fv10 fv11
            replace RJ := Lib.hid (row_keepB RJ.out hbx)
            replace s0 := cell_keep s0 hbx; replace s1 := cell_keep s1 hbx; replace s2 := cell_keep s2 hbx; replace SS := Lib.hid (SS.out.below hbx); replace BB := Lib.hid (below_step BB.out hbx)
            obtain ⟨⟨a0, a1, a2, a3⟩, fa0, fa1, fa2, fa3⟩ := row4L hra
            obtain ⟨⟨b0, b1, b2, b3⟩, fb0, fb1, fb2, fb3⟩ := row4L hrb
            obtain ⟨⟨c0, c1, c2, c3⟩, fc0, fc1, fc2, fc3⟩ := row4L hrc
            have hjl := (Array.getElem?_eq_some_iff.1 RJ0.out).1
            have hsl9 := World.block_lt_of_cell? _ _ S0J.out
            simp only at hsl9
            have hwj : w.heap.size ≤ WJ.heap.size := by have := HLJ.out; omega
            obtain ⟨wv, hwv⟩ : ∃ v, v = wx := ⟨_, rfl⟩
            subst hwv
            have B2 := fun y => (cell_offU (w := wv) (i := 1) (j := 2) y (Ne.symm hab)).trans b2
            have FB2 := fun y => (froz_offU (w := wv) (i := 1) (j := 2) y (Ne.symm hab)).trans fb2
            have C3 := fun y y' => (cell_offU (w := wv.setCell ⟨ga, 1, none⟩ y) (i := 2) (j := 3) y' (Ne.symm hbc)).trans ((cell_offU (w := wv) (i := 1) (j := 3) y (Ne.symm hac)).trans c3)
            have FC3 := fun y y' => (froz_offU (w := wv.setCell ⟨ga, 1, none⟩ y) (i := 2) (j := 3) y' (Ne.symm hbc)).trans ((froz_offU (w := wv) (i := 1) (j := 3) y (Ne.symm hac)).trans fc3)
            have hsa : gs ≠ ga := by omega
            have hsb : gs ≠ gb := by omega
            have hsc : gs ≠ gc := by omega
            have hja : gj ≠ ga := by omega
            have hjb : gj ≠ gb := by omega
            have hjc : gj ≠ gc := by omega
            have v1' := V1.out
            have v2' := V2.out
            have v3' := V3.out
            have HA := Lib.hid (show w.heap.size ≤ ga by omega); have HB := Lib.hid (show w.heap.size ≤ gb by omega); have HC := Lib.hid (show w.heap.size ≤ gc by omega)
            have SN := Lib.hid hsa; have SM := Lib.hid hsb; have SO := Lib.hid hsc; have JN := Lib.hid hja; have JM := Lib.hid hjb; have JO := Lib.hid hjc; have AB := Lib.hid hab; have AC := Lib.hid hac; have BC := Lib.hid hbc; have HBJ := Lib.hid hbx; have HAJ := Lib.hid hna; have HBB := Lib.hid hnb; have HCC := Lib.hid hnc; have RA := Lib.hid hra; have RB := Lib.hid hrb; have RC := Lib.hid hrc
            have SSJ := SS0J.out
            clear hsa hsb hsc hja hjb hjc hab hac hbc hra hrb hrc hna hnb hnc hbx hnx RJ0 S0J hjl hsl9 hwj
            go_upto_region 13 with fail
            rw [HNB1.out]
            obtain ⟨wn, hwn⟩ : ∃ v, ((wv.setCell ⟨ga, 1, none⟩ (.int .i64 mA)).setCell ⟨gb, 2, none⟩ (.int .i64 nB)).setCell ⟨gc, 3, none⟩ (.int .i64 eC) = v := ⟨_, rfl⟩
            have ra9 : (((wv.setCell ⟨ga, 1, none⟩ (.int .i64 mA)).setCell ⟨gb, 2, none⟩ (.int .i64 nB)).setCell ⟨gc, 3, none⟩ (.int .i64 eC)).heap[ga]? = _ := row_farU (row_farU (row4_set1 RA.out _) AB.out _) AC.out _
            have rb9 : (((wv.setCell ⟨ga, 1, none⟩ (.int .i64 mA)).setCell ⟨gb, 2, none⟩ (.int .i64 nB)).setCell ⟨gc, 3, none⟩ (.int .i64 eC)).heap[gb]? = _ := row_farU (row4_set2 (row_farU RB.out (Ne.symm AB.out) _) _) BC.out _
            have rc9 : (((wv.setCell ⟨ga, 1, none⟩ (.int .i64 mA)).setCell ⟨gb, 2, none⟩ (.int .i64 nB)).setCell ⟨gc, 3, none⟩ (.int .i64 eC)).heap[gc]? = _ := row4_setc (row_farU (row_farU RC.out (Ne.symm AC.out) _) (Ne.symm BC.out) _) _
            have rj9 : (((wv.setCell ⟨ga, 1, none⟩ (.int .i64 mA)).setCell ⟨gb, 2, none⟩ (.int .i64 nB)).setCell ⟨gc, 3, none⟩ (.int .i64 eC)).heap[gj]? = _ := row_farU (row_farU (row_farU RJ.out JN.out _) JM.out _) JO.out _
            have hs0 : (((wv.setCell ⟨ga, 1, none⟩ (.int .i64 mA)).setCell ⟨gb, 2, none⟩ (.int .i64 nB)).setCell ⟨gc, 3, none⟩ (.int .i64 eC)).cell? ⟨gs, 0, none⟩ = _ := ((cell_offU _ SO.out).trans ((cell_offU _ SM.out).trans (cell_offU _ SN.out))).trans s0
            have hs1 : (((wv.setCell ⟨ga, 1, none⟩ (.int .i64 mA)).setCell ⟨gb, 2, none⟩ (.int .i64 nB)).setCell ⟨gc, 3, none⟩ (.int .i64 eC)).cell? ⟨gs, 1, none⟩ = _ := ((cell_offU _ SO.out).trans ((cell_offU _ SM.out).trans (cell_offU _ SN.out))).trans s1
            have hs2 : (((wv.setCell ⟨ga, 1, none⟩ (.int .i64 mA)).setCell ⟨gb, 2, none⟩ (.int .i64 nB)).setCell ⟨gc, 3, none⟩ (.int .i64 eC)).cell? ⟨gs, 2, none⟩ = _ := ((cell_offU _ SO.out).trans ((cell_offU _ SM.out).trans (cell_offU _ SN.out))).trans s2
            have hb9 : Below w.heap.size w (((wv.setCell ⟨ga, 1, none⟩ (.int .i64 mA)).setCell ⟨gb, 2, none⟩ (.int .i64 nB)).setCell ⟨gc, 3, none⟩ (.int .i64 eC)) := ((BB.out.setCell HA.out _).setCell HB.out _).setCell HC.out _
            have hss9 : Dfs (((wv.setCell ⟨ga, 1, none⟩ (.int .i64 mA)).setCell ⟨gb, 2, none⟩ (.int .i64 nB)).setCell ⟨gc, 3, none⟩ (.int .i64 eC)) (.slice aS ns cS) s := SSJ.below (((((HBJ.out).setCell HAJ.out _).setCell HBB.out _).setCell HCC.out _))
            rw [hwn] at ra9 rb9 rc9 rj9 hs0 hs1 hs2 hb9 hss9 ⊢
            clear hwn s0 s1 s2 a0 a1 a2 a3 fa0 fa1 fa2 fa3 b0 b1 b2 b3 fb0 fb1 fb2 fb3 c0 c1 c2 c3 fc0 fc1 fc2 fc3 B2 FB2 C3 FC3
            have s0 := hs0
            have s1 := hs1
            have s2 := hs2
            obtain ⟨a0, a1, a2, a3⟩ := row4f ra9
            obtain ⟨b0, b1, b2, b3⟩ := row4f rb9
            obtain ⟨c0, c1, c2, c3⟩ := row4f rc9
            obtain ⟨j0, j1, j2, j3⟩ := row4f rj9
            replace BB := Lib.hid hb9; replace SS := Lib.hid hss9
            clear hs0 hs1 hs2 ra9 rb9 rc9 rj9 hb9 hss9 RA RB RC RJ SSJ
            go_wp2_with (first
                | (go_at_call 23; refine (fits_any _ _ _ _ m e aS ns cS s _ SS.out HSS.out HL1.out).mono ?_; rintro x w9 ⟨rfl, hb1⟩; (first | rw [F0.out] | rw [FA.out] | rw [FB.out] | rw [FC.out]); replace s0 := cell_keep s0 hb1; replace s1 := cell_keep s1 hb1; replace s2 := cell_keep s2 hb1; replace a0 := cell_keep a0 hb1; replace a1 := cell_keep a1 hb1; replace a2 := cell_keep a2 hb1; replace a3 := cell_keep a3 hb1; replace b0 := cell_keep b0 hb1; replace b1 := cell_keep b1 hb1; replace b2 := cell_keep b2 hb1; replace b3 := cell_keep b3 hb1; replace c0 := cell_keep c0 hb1; replace c1 := cell_keep c1 hb1; replace c2 := cell_keep c2 hb1; replace c3 := cell_keep c3 hb1; replace j0 := cell_keep j0 hb1; replace j1 := cell_keep j1 hb1; replace j2 := cell_keep j2 hb1; replace j3 := cell_keep j3 hb1; replace SS := Lib.hid (SS.out.below hb1); replace BB := Lib.hid (below_step BB.out hb1); clear hb1)
                | (go_at_call 20; refine (rawake_any _).mono ?_; rintro e w9 ⟨rfl, hb1⟩; replace s0 := cell_keep s0 hb1; replace s1 := cell_keep s1 hb1; replace s2 := cell_keep s2 hb1; replace a0 := cell_keep a0 hb1; replace a1 := cell_keep a1 hb1; replace a2 := cell_keep a2 hb1; replace a3 := cell_keep a3 hb1; replace b0 := cell_keep b0 hb1; replace b1 := cell_keep b1 hb1; replace b2 := cell_keep b2 hb1; replace b3 := cell_keep b3 hb1; replace c0 := cell_keep c0 hb1; replace c1 := cell_keep c1 hb1; replace c2 := cell_keep c2 hb1; replace c3 := cell_keep c3 hb1; replace j0 := cell_keep j0 hb1; replace j1 := cell_keep j1 hb1; replace j2 := cell_keep j2 hb1; replace j3 := cell_keep j3 hb1; replace SS := Lib.hid (SS.out.below hb1); replace BB := Lib.hid (below_step BB.out hb1); clear hb1))
            go_ret
            exact ⟨rfl, BB.out⟩
      · have dln : decide (ln < 4611686018427387904) = false := decide_eq_false t
        clear t
        have HSZ8 := Lib.hid BB.out.size
        obtain ⟨w8, hw8⟩ : ∃ v, v = w9 := ⟨_, rfl⟩
        subst hw8
        go_upto_region 9 with fail
        obtain ⟨WJ, gj, hWJ, hgj, rJ, hb1⟩ := boxL w8 (.int .i64 0) (.int .i64 m) (.int .i64 (ns : Int)) (.int .i64 e) 43
        rw [hWJ, hgj]
        replace s0 := cell_keep s0 hb1; replace s1 := cell_keep s1 hb1; replace s2 := cell_keep s2 hb1; replace SS := Lib.hid (SS.out.below hb1); replace BB := Lib.hid (below_step BB.out hb1)
        have RJ := Lib.hid rJ
        have HLJ := Lib.hid (show w.heap.size ≤ gj by rw [← hgj]; exact HSZ8.out)
        clear hWJ hgj rJ hb1 l0 l1 l2 l3 HSZ8
        have RJ0 := RJ; have S0J := Lib.hid s0; have SS0J := SS
        go_upto_region 9 with fail
        refine rol_run (by kernel_rfl) [[], [], [], [], [], [], [0, 3, 4, 5], [0, 1, 3, 4, 5, 6], [0, 1, 2, 3, 4, 5, 6, 7]] (by kernel_rfl) [71, 72, 73, 9, 10, 11] [[], [], [], [], [], [], [0, 3], [1, 4], [2, 5]] [0, 0, 0, 2, 3, 4, 2, 3, 4] [0, 0, 0, 0, 0, 0, 2, 3, 4] [1000, 1000, 1000, 6, 7, 8, 1000, 1000, 1000] [.val 71 (.agg #[.int .i64 0, .int .i64 m, .int .i64 (ns : Int), .int .i64 e]), .val 72 (.agg #[.int .i64 0, .int .i64 m, .int .i64 (ns : Int), .int .i64 e]), .val 73 (.agg #[.int .i64 0, .int .i64 m, .int .i64 (ns : Int), .int .i64 e]), .mem 9 (cell4P WJ.heap.size 43 (.int .i64 0) (.int .i64 0) (.int .i64 0) (.int .i64 0)), .mem 10 (cell4P WJ.heap.size 43 (.int .i64 0) (.int .i64 0) (.int .i64 0) (.int .i64 0)), .mem 11 (cell4P WJ.heap.size 43 (.int .i64 0) (.int .i64 0) (.int .i64 0) (.int .i64 0)), .mem 9 (cell4P WJ.heap.size 43 (.int .i64 0) (.int .i64 m) (.int .i64 (ns : Int)) (.int .i64 e)), .mem 10 (cell4P WJ.heap.size 43 (.int .i64 0) (.int .i64 m) (.int .i64 (ns : Int)) (.int .i64 e)), .mem 11 (cell4P WJ.heap.size 43 (.int .i64 0) (.int .i64 m) (.int .i64 (ns : Int)) (.int .i64 e))] (by kernel_rfl) ?_ (WJ.heap.size) (WJ.heap.size) rfl (Below.refl _ _) rfl (fun _ => 0) ?_ ?_ ?_
        · intro j hj
          have hj3 : j < 9 := hj
          have hj2 : j = 0 ∨ j = 1 ∨ j = 2 ∨ j = 3 ∨ j = 4 ∨ j = 5 ∨ j = 6 ∨ j = 7 ∨ j = 8 := by omega
          clear hj hj3
          rcases hj2 with rfl | rfl | rfl | rfl | rfl | rfl | rfl | rfl | rfl
          · exact trivial
          · exact trivial
          · exact trivial
          · exact cell4P_near
          · exact cell4P_near
          · exact cell4P_near
          · exact cell4P_near
          · exact cell4P_near
          · exact cell4P_near
        · intro j hj0 hj
          exact absurd hj (Nat.not_lt.2 hj0)
        · intro i hi a wx who hG hF
          have hz : a.tmps.size = 111 := hG.size
          have hi3 : i < 9 := hi
          have hi2 : i = 0 ∨ i = 1 ∨ i = 2 ∨ i = 3 ∨ i = 4 ∨ i = 5 ∨ i = 6 ∨ i = 7 ∨ i = 8 := by omega
          clear hi hi3
          rcases hi2 with rfl | rfl | rfl | rfl | rfl | rfl | rfl | rfl | rfl
          · exact rol_val rfl rfl rfl (by rw [hz]; decide) (ex_load rfl (eval_slot ((hG.slots 8 (by decide)).trans rfl)) (ld_lim (row_keepB RJ.out hG.below))) hG.below
          · exact rol_val rfl rfl rfl (by rw [hz]; decide) (ex_load rfl (eval_slot ((hG.slots 8 (by decide)).trans rfl)) (ld_lim (row_keepB RJ.out hG.below))) hG.below
          · exact rol_val rfl rfl rfl (by rw [hz]; decide) (ex_load rfl (eval_slot ((hG.slots 8 (by decide)).trans rfl)) (ld_lim (row_keepB RJ.out hG.below))) hG.below
          · exact rol_alloc_lim rfl rfl rfl (by rw [hz]; decide) rfl hG.below (Nat.le_refl _) hG.new
          · exact rol_alloc_lim rfl rfl rfl (by rw [hz]; decide) rfl hG.below (Nat.le_refl _) hG.new
          · exact rol_alloc_lim rfl rfl rfl (by rw [hz]; decide) rfl hG.below (Nat.le_refl _) hG.new
          · exact rol_fill_lim rfl rfl rfl rfl (hF 3 (by decide)) (eval_slot (hF 0 (by decide))) hG.below (Nat.le_refl _)
          · exact rol_fill_lim rfl rfl rfl rfl (hF 4 (by decide)) (eval_slot (hF 1 (by decide))) hG.below (Nat.le_refl _)
          · exact rol_fill_lim rfl rfl rfl rfl (hF 5 (by decide)) (eval_slot (hF 2 (by decide))) hG.below (Nat.le_refl _)
        · intro a wx who hG hF
          have ha9 := hF 6 (of_decide_eq_true (by kernel_rfl)) (of_decide_eq_true (by kernel_rfl))
          have hb10 := hF 7 (of_decide_eq_true (by kernel_rfl)) (of_decide_eq_true (by kernel_rfl))
          have hc11 := hF 8 (of_decide_eq_true (by kernel_rfl)) (of_decide_eq_true (by kernel_rfl))
          obtain ⟨p9, ob9, hp9, hw9, ga, rfl, rfl, hna, hra⟩ := ha9
          obtain ⟨p10, ob10, hp10, hw10, gb, rfl, rfl, hnb, hrb⟩ := hb10
          obtain ⟨p11, ob11, hp11, hw11, gc, rfl, rfl, hnc, hrc⟩ := hc11
          have fv9 : a.tmps.getD 9 undef = .pointer (some ⟨ga, 0, none⟩) := eval_slot (s := 9) hp9
          have fv10 : a.tmps.getD 10 undef = .pointer (some ⟨gb, 0, none⟩) := eval_slot (s := 10) hp10
          have fv11 : a.tmps.getD 11 undef = .pointer (some ⟨gc, 0, none⟩) := eval_slot (s := 11) hp11
          have hab : ¬ ga = gb := fun q => by have h1 := (hw9 ga rfl).2; have h2 := (hw10 gb rfl).2; rw [q, h2] at h1; exact absurd h1 (by decide)
          have hac : ¬ ga = gc := fun q => by have h1 := (hw9 ga rfl).2; have h2 := (hw11 gc rfl).2; rw [q, h2] at h1; exact absurd h1 (by decide)
          have hbc : ¬ gb = gc := fun q => by have h1 := (hw10 gb rfl).2; have h2 := (hw11 gc rfl).2; rw [q, h2] at h1; exact absurd h1 (by decide)
          clear hp9 hp10 hp11 hw9 hw10 hw11
          have hbx := hG.below
          have hnx := hG.new
          rw [hG.frame]
          simp only [List.foldl_cons, List.foldl_nil, List.setIfInBounds_toArray, List.set_cons_zero, List.set_cons_succ]
          generalize a.tmps.getD 71 undef = u71
          generalize a.tmps.getD 72 undef = u72
          generalize a.tmps.getD 73 undef = u73
          rw [fv9]
          rw [fv10]
          rw [fv11]
          clear hF hG fv9 fv10 fv11
          replace RJ := Lib.hid (row_keepB RJ.out hbx)
          replace s0 := cell_keep s0 hbx; replace s1 := cell_keep s1 hbx; replace s2 := cell_keep s2 hbx; replace SS := Lib.hid (SS.out.below hbx); replace BB := Lib.hid (below_step BB.out hbx)
          obtain ⟨⟨a0, a1, a2, a3⟩, fa0, fa1, fa2, fa3⟩ := row4L hra
          obtain ⟨⟨b0, b1, b2, b3⟩, fb0, fb1, fb2, fb3⟩ := row4L hrb
          obtain ⟨⟨c0, c1, c2, c3⟩, fc0, fc1, fc2, fc3⟩ := row4L hrc
          have hjl := (Array.getElem?_eq_some_iff.1 RJ0.out).1
          have hsl9 := World.block_lt_of_cell? _ _ S0J.out
          simp only at hsl9
          have hwj : w.heap.size ≤ WJ.heap.size := by have := HLJ.out; omega
          obtain ⟨wv, hwv⟩ : ∃ v, v = wx := ⟨_, rfl⟩
          subst hwv
          have B2 := fun y => (cell_offU (w := wv) (i := 1) (j := 2) y (Ne.symm hab)).trans b2
          have FB2 := fun y => (froz_offU (w := wv) (i := 1) (j := 2) y (Ne.symm hab)).trans fb2
          have C3 := fun y y' => (cell_offU (w := wv.setCell ⟨ga, 1, none⟩ y) (i := 2) (j := 3) y' (Ne.symm hbc)).trans ((cell_offU (w := wv) (i := 1) (j := 3) y (Ne.symm hac)).trans c3)
          have FC3 := fun y y' => (froz_offU (w := wv.setCell ⟨ga, 1, none⟩ y) (i := 2) (j := 3) y' (Ne.symm hbc)).trans ((froz_offU (w := wv) (i := 1) (j := 3) y (Ne.symm hac)).trans fc3)
          have hsa : gs ≠ ga := by omega
          have hsb : gs ≠ gb := by omega
          have hsc : gs ≠ gc := by omega
          have hja : gj ≠ ga := by omega
          have hjb : gj ≠ gb := by omega
          have hjc : gj ≠ gc := by omega
          have v1' := V1.out
          have v2' := V2.out
          have v3' := V3.out
          have HA := Lib.hid (show w.heap.size ≤ ga by omega); have HB := Lib.hid (show w.heap.size ≤ gb by omega); have HC := Lib.hid (show w.heap.size ≤ gc by omega)
          have SN := Lib.hid hsa; have SM := Lib.hid hsb; have SO := Lib.hid hsc; have JN := Lib.hid hja; have JM := Lib.hid hjb; have JO := Lib.hid hjc; have AB := Lib.hid hab; have AC := Lib.hid hac; have BC := Lib.hid hbc; have HBJ := Lib.hid hbx; have HAJ := Lib.hid hna; have HBB := Lib.hid hnb; have HCC := Lib.hid hnc; have RA := Lib.hid hra; have RB := Lib.hid hrb; have RC := Lib.hid hrc
          have SSJ := SS0J.out
          clear hsa hsb hsc hja hjb hjc hab hac hbc hra hrb hrc hna hnb hnc hbx hnx RJ0 S0J hjl hsl9 hwj
          go_upto_region 13 with fail
          rw [HNB1.out]
          obtain ⟨wn, hwn⟩ : ∃ v, ((wv.setCell ⟨ga, 1, none⟩ (.int .i64 mA)).setCell ⟨gb, 2, none⟩ (.int .i64 nB)).setCell ⟨gc, 3, none⟩ (.int .i64 eC) = v := ⟨_, rfl⟩
          have ra9 : (((wv.setCell ⟨ga, 1, none⟩ (.int .i64 mA)).setCell ⟨gb, 2, none⟩ (.int .i64 nB)).setCell ⟨gc, 3, none⟩ (.int .i64 eC)).heap[ga]? = _ := row_farU (row_farU (row4_set1 RA.out _) AB.out _) AC.out _
          have rb9 : (((wv.setCell ⟨ga, 1, none⟩ (.int .i64 mA)).setCell ⟨gb, 2, none⟩ (.int .i64 nB)).setCell ⟨gc, 3, none⟩ (.int .i64 eC)).heap[gb]? = _ := row_farU (row4_set2 (row_farU RB.out (Ne.symm AB.out) _) _) BC.out _
          have rc9 : (((wv.setCell ⟨ga, 1, none⟩ (.int .i64 mA)).setCell ⟨gb, 2, none⟩ (.int .i64 nB)).setCell ⟨gc, 3, none⟩ (.int .i64 eC)).heap[gc]? = _ := row4_setc (row_farU (row_farU RC.out (Ne.symm AC.out) _) (Ne.symm BC.out) _) _
          have rj9 : (((wv.setCell ⟨ga, 1, none⟩ (.int .i64 mA)).setCell ⟨gb, 2, none⟩ (.int .i64 nB)).setCell ⟨gc, 3, none⟩ (.int .i64 eC)).heap[gj]? = _ := row_farU (row_farU (row_farU RJ.out JN.out _) JM.out _) JO.out _
          have hs0 : (((wv.setCell ⟨ga, 1, none⟩ (.int .i64 mA)).setCell ⟨gb, 2, none⟩ (.int .i64 nB)).setCell ⟨gc, 3, none⟩ (.int .i64 eC)).cell? ⟨gs, 0, none⟩ = _ := ((cell_offU _ SO.out).trans ((cell_offU _ SM.out).trans (cell_offU _ SN.out))).trans s0
          have hs1 : (((wv.setCell ⟨ga, 1, none⟩ (.int .i64 mA)).setCell ⟨gb, 2, none⟩ (.int .i64 nB)).setCell ⟨gc, 3, none⟩ (.int .i64 eC)).cell? ⟨gs, 1, none⟩ = _ := ((cell_offU _ SO.out).trans ((cell_offU _ SM.out).trans (cell_offU _ SN.out))).trans s1
          have hs2 : (((wv.setCell ⟨ga, 1, none⟩ (.int .i64 mA)).setCell ⟨gb, 2, none⟩ (.int .i64 nB)).setCell ⟨gc, 3, none⟩ (.int .i64 eC)).cell? ⟨gs, 2, none⟩ = _ := ((cell_offU _ SO.out).trans ((cell_offU _ SM.out).trans (cell_offU _ SN.out))).trans s2
          have hb9 : Below w.heap.size w (((wv.setCell ⟨ga, 1, none⟩ (.int .i64 mA)).setCell ⟨gb, 2, none⟩ (.int .i64 nB)).setCell ⟨gc, 3, none⟩ (.int .i64 eC)) := ((BB.out.setCell HA.out _).setCell HB.out _).setCell HC.out _
          have hss9 : Dfs (((wv.setCell ⟨ga, 1, none⟩ (.int .i64 mA)).setCell ⟨gb, 2, none⟩ (.int .i64 nB)).setCell ⟨gc, 3, none⟩ (.int .i64 eC)) (.slice aS ns cS) s := SSJ.below (((((HBJ.out).setCell HAJ.out _).setCell HBB.out _).setCell HCC.out _))
          rw [hwn] at ra9 rb9 rc9 rj9 hs0 hs1 hs2 hb9 hss9 ⊢
          clear hwn s0 s1 s2 a0 a1 a2 a3 fa0 fa1 fa2 fa3 b0 b1 b2 b3 fb0 fb1 fb2 fb3 c0 c1 c2 c3 fc0 fc1 fc2 fc3 B2 FB2 C3 FC3
          have s0 := hs0
          have s1 := hs1
          have s2 := hs2
          obtain ⟨a0, a1, a2, a3⟩ := row4f ra9
          obtain ⟨b0, b1, b2, b3⟩ := row4f rb9
          obtain ⟨c0, c1, c2, c3⟩ := row4f rc9
          obtain ⟨j0, j1, j2, j3⟩ := row4f rj9
          replace BB := Lib.hid hb9; replace SS := Lib.hid hss9
          clear hs0 hs1 hs2 ra9 rb9 rc9 rj9 hb9 hss9 RA RB RC RJ SSJ
          go_wp2_with (first
              | (go_at_call 23; refine (fits_any _ _ _ _ m e aS ns cS s _ SS.out HSS.out HL1.out).mono ?_; rintro x w9 ⟨rfl, hb1⟩; (first | rw [F0.out] | rw [FA.out] | rw [FB.out] | rw [FC.out]); replace s0 := cell_keep s0 hb1; replace s1 := cell_keep s1 hb1; replace s2 := cell_keep s2 hb1; replace a0 := cell_keep a0 hb1; replace a1 := cell_keep a1 hb1; replace a2 := cell_keep a2 hb1; replace a3 := cell_keep a3 hb1; replace b0 := cell_keep b0 hb1; replace b1 := cell_keep b1 hb1; replace b2 := cell_keep b2 hb1; replace b3 := cell_keep b3 hb1; replace c0 := cell_keep c0 hb1; replace c1 := cell_keep c1 hb1; replace c2 := cell_keep c2 hb1; replace c3 := cell_keep c3 hb1; replace j0 := cell_keep j0 hb1; replace j1 := cell_keep j1 hb1; replace j2 := cell_keep j2 hb1; replace j3 := cell_keep j3 hb1; replace SS := Lib.hid (SS.out.below hb1); replace BB := Lib.hid (below_step BB.out hb1); clear hb1)
              | (go_at_call 20; refine (rawake_any _).mono ?_; rintro e w9 ⟨rfl, hb1⟩; replace s0 := cell_keep s0 hb1; replace s1 := cell_keep s1 hb1; replace s2 := cell_keep s2 hb1; replace a0 := cell_keep a0 hb1; replace a1 := cell_keep a1 hb1; replace a2 := cell_keep a2 hb1; replace a3 := cell_keep a3 hb1; replace b0 := cell_keep b0 hb1; replace b1 := cell_keep b1 hb1; replace b2 := cell_keep b2 hb1; replace b3 := cell_keep b3 hb1; replace c0 := cell_keep c0 hb1; replace c1 := cell_keep c1 hb1; replace c2 := cell_keep c2 hb1; replace c3 := cell_keep c3 hb1; replace j0 := cell_keep j0 hb1; replace j1 := cell_keep j1 hb1; replace j2 := cell_keep j2 hb1; replace j3 := cell_keep j3 hb1; replace SS := Lib.hid (SS.out.below hb1); replace BB := Lib.hid (below_step BB.out hb1); clear hb1))
          go_ret
          exact ⟨rfl, BB.out⟩
    · have dlm : decide (lm < 4611686018427387904) = false := decide_eq_false t
      clear t
      have HSZ8 := Lib.hid BB.out.size
      obtain ⟨w8, hw8⟩ : ∃ v, v = w9 := ⟨_, rfl⟩
      subst hw8
      go_upto_region 9 with fail
      obtain ⟨WJ, gj, hWJ, hgj, rJ, hb1⟩ := boxL w8 (.int .i64 0) (.int .i64 m) (.int .i64 (ns : Int)) (.int .i64 e) 43
      rw [hWJ, hgj]
      replace s0 := cell_keep s0 hb1; replace s1 := cell_keep s1 hb1; replace s2 := cell_keep s2 hb1; replace SS := Lib.hid (SS.out.below hb1); replace BB := Lib.hid (below_step BB.out hb1)
      have RJ := Lib.hid rJ
      have HLJ := Lib.hid (show w.heap.size ≤ gj by rw [← hgj]; exact HSZ8.out)
      clear hWJ hgj rJ hb1 l0 l1 l2 l3 HSZ8
      have RJ0 := RJ; have S0J := Lib.hid s0; have SS0J := SS
      go_upto_region 9 with fail
      refine rol_run (by kernel_rfl) [[], [], [], [], [], [], [0, 3, 4, 5], [0, 1, 3, 4, 5, 6], [0, 1, 2, 3, 4, 5, 6, 7]] (by kernel_rfl) [71, 72, 73, 9, 10, 11] [[], [], [], [], [], [], [0, 3], [1, 4], [2, 5]] [0, 0, 0, 2, 3, 4, 2, 3, 4] [0, 0, 0, 0, 0, 0, 2, 3, 4] [1000, 1000, 1000, 6, 7, 8, 1000, 1000, 1000] [.val 71 (.agg #[.int .i64 0, .int .i64 m, .int .i64 (ns : Int), .int .i64 e]), .val 72 (.agg #[.int .i64 0, .int .i64 m, .int .i64 (ns : Int), .int .i64 e]), .val 73 (.agg #[.int .i64 0, .int .i64 m, .int .i64 (ns : Int), .int .i64 e]), .mem 9 (cell4P WJ.heap.size 43 (.int .i64 0) (.int .i64 0) (.int .i64 0) (.int .i64 0)), .mem 10 (cell4P WJ.heap.size 43 (.int .i64 0) (.int .i64 0) (.int .i64 0) (.int .i64 0)), .mem 11 (cell4P WJ.heap.size 43 (.int .i64 0) (.int .i64 0) (.int .i64 0) (.int .i64 0)), .mem 9 (cell4P WJ.heap.size 43 (.int .i64 0) (.int .i64 m) (.int .i64 (ns : Int)) (.int .i64 e)), .mem 10 (cell4P WJ.heap.size 43 (.int .i64 0) (.int .i64 m) (.int .i64 (ns : Int)) (.int .i64 e)), .mem 11 (cell4P WJ.heap.size 43 (.int .i64 0) (.int .i64 m) (.int .i64 (ns : Int)) (.int .i64 e))] (by kernel_rfl) ?_ (WJ.heap.size) (WJ.heap.size) rfl (Below.refl _ _) rfl (fun _ => 0) ?_ ?_ ?_
      · intro j hj
        have hj3 : j < 9 := hj
        have hj2 : j = 0 ∨ j = 1 ∨ j = 2 ∨ j = 3 ∨ j = 4 ∨ j = 5 ∨ j = 6 ∨ j = 7 ∨ j = 8 := by omega
        clear hj hj3
        rcases hj2 with rfl | rfl | rfl | rfl | rfl | rfl | rfl | rfl | rfl
        · exact trivial
        · exact trivial
        · exact trivial
        · exact cell4P_near
        · exact cell4P_near
        · exact cell4P_near
        · exact cell4P_near
        · exact cell4P_near
        · exact cell4P_near
      · intro j hj0 hj
        exact absurd hj (Nat.not_lt.2 hj0)
      · intro i hi a wx who hG hF
        have hz : a.tmps.size = 111 := hG.size
        have hi3 : i < 9 := hi
        have hi2 : i = 0 ∨ i = 1 ∨ i = 2 ∨ i = 3 ∨ i = 4 ∨ i = 5 ∨ i = 6 ∨ i = 7 ∨ i = 8 := by omega
        clear hi hi3
        rcases hi2 with rfl | rfl | rfl | rfl | rfl | rfl | rfl | rfl | rfl
        · exact rol_val rfl rfl rfl (by rw [hz]; decide) (ex_load rfl (eval_slot ((hG.slots 8 (by decide)).trans rfl)) (ld_lim (row_keepB RJ.out hG.below))) hG.below
        · exact rol_val rfl rfl rfl (by rw [hz]; decide) (ex_load rfl (eval_slot ((hG.slots 8 (by decide)).trans rfl)) (ld_lim (row_keepB RJ.out hG.below))) hG.below
        · exact rol_val rfl rfl rfl (by rw [hz]; decide) (ex_load rfl (eval_slot ((hG.slots 8 (by decide)).trans rfl)) (ld_lim (row_keepB RJ.out hG.below))) hG.below
        · exact rol_alloc_lim rfl rfl rfl (by rw [hz]; decide) rfl hG.below (Nat.le_refl _) hG.new
        · exact rol_alloc_lim rfl rfl rfl (by rw [hz]; decide) rfl hG.below (Nat.le_refl _) hG.new
        · exact rol_alloc_lim rfl rfl rfl (by rw [hz]; decide) rfl hG.below (Nat.le_refl _) hG.new
        · exact rol_fill_lim rfl rfl rfl rfl (hF 3 (by decide)) (eval_slot (hF 0 (by decide))) hG.below (Nat.le_refl _)
        · exact rol_fill_lim rfl rfl rfl rfl (hF 4 (by decide)) (eval_slot (hF 1 (by decide))) hG.below (Nat.le_refl _)
        · exact rol_fill_lim rfl rfl rfl rfl (hF 5 (by decide)) (eval_slot (hF 2 (by decide))) hG.below (Nat.le_refl _)
      · intro a wx who hG hF
        have ha9 := hF 6 (of_decide_eq_true (by kernel_rfl)) (of_decide_eq_true (by kernel_rfl))
        have hb10 := hF 7 (of_decide_eq_true (by kernel_rfl)) (of_decide_eq_true (by kernel_rfl))
        have hc11 := hF 8 (of_decide_eq_true (by kernel_rfl)) (of_decide_eq_true (by kernel_rfl))
        obtain ⟨p9, ob9, hp9, hw9, ga, rfl, rfl, hna, hra⟩ := ha9
        obtain ⟨p10, ob10, hp10, hw10, gb, rfl, rfl, hnb, hrb⟩ := hb10
        obtain ⟨p11, ob11, hp11, hw11, gc, rfl, rfl, hnc, hrc⟩ := hc11
        have fv9 : a.tmps.getD 9 undef = .pointer (some ⟨ga, 0, none⟩) := eval_slot (s := 9) hp9
        have fv10 : a.tmps.getD 10 undef = .pointer (some ⟨gb, 0, none⟩) := eval_slot (s := 10) hp10
        have fv11 : a.tmps.getD 11 undef = .pointer (some ⟨gc, 0, none⟩) := eval_slot (s := 11) hp11
        have hab : ¬ ga = gb := fun q => by have h1 := (hw9 ga rfl).2; have h2 := (hw10 gb rfl).2; rw [q, h2] at h1; exact absurd h1 (by decide)
        have hac : ¬ ga = gc := fun q => by have h1 := (hw9 ga rfl).2; have h2 := (hw11 gc rfl).2; rw [q, h2] at h1; exact absurd h1 (by decide)
        have hbc : ¬ gb = gc := fun q => by have h1 := (hw10 gb rfl).2; have h2 := (hw11 gc rfl).2; rw [q, h2] at h1; exact absurd h1 (by decide)
        clear hp9 hp10 hp11 hw9 hw10 hw11
        have hbx := hG.below
        have hnx := hG.new
        rw [hG.frame]
        simp only [List.foldl_cons, List.foldl_nil, List.setIfInBounds_toArray, List.set_cons_zero, List.set_cons_succ]
        generalize a.tmps.getD 71 undef = u71
        generalize a.tmps.getD 72 undef = u72
        generalize a.tmps.getD 73 undef = u73
        rw [fv9]
        rw [fv10]
        rw [fv11]
        clear hF hG fv9 fv10 fv11
        replace RJ := Lib.hid (row_keepB RJ.out hbx)
        replace s0 := cell_keep s0 hbx; replace s1 := cell_keep s1 hbx; replace s2 := cell_keep s2 hbx; replace SS := Lib.hid (SS.out.below hbx); replace BB := Lib.hid (below_step BB.out hbx)
        obtain ⟨⟨a0, a1, a2, a3⟩, fa0, fa1, fa2, fa3⟩ := row4L hra
        obtain ⟨⟨b0, b1, b2, b3⟩, fb0, fb1, fb2, fb3⟩ := row4L hrb
        obtain ⟨⟨c0, c1, c2, c3⟩, fc0, fc1, fc2, fc3⟩ := row4L hrc
        have hjl := (Array.getElem?_eq_some_iff.1 RJ0.out).1
        have hsl9 := World.block_lt_of_cell? _ _ S0J.out
        simp only at hsl9
        have hwj : w.heap.size ≤ WJ.heap.size := by have := HLJ.out; omega
        obtain ⟨wv, hwv⟩ : ∃ v, v = wx := ⟨_, rfl⟩
        subst hwv
        have B2 := fun y => (cell_offU (w := wv) (i := 1) (j := 2) y (Ne.symm hab)).trans b2
        have FB2 := fun y => (froz_offU (w := wv) (i := 1) (j := 2) y (Ne.symm hab)).trans fb2
        have C3 := fun y y' => (cell_offU (w := wv.setCell ⟨ga, 1, none⟩ y) (i := 2) (j := 3) y' (Ne.symm hbc)).trans ((cell_offU (w := wv) (i := 1) (j := 3) y (Ne.symm hac)).trans c3)
        have FC3 := fun y y' => (froz_offU (w := wv.setCell ⟨ga, 1, none⟩ y) (i := 2) (j := 3) y' (Ne.symm hbc)).trans ((froz_offU (w := wv) (i := 1) (j := 3) y (Ne.symm hac)).trans fc3)
        have hsa : gs ≠ ga := by omega
        have hsb : gs ≠ gb := by omega
        have hsc : gs ≠ gc := by omega
        have hja : gj ≠ ga := by omega
        have hjb : gj ≠ gb := by omega
        have hjc : gj ≠ gc := by omega
        have v1' := V1.out
        have v2' := V2.out
        have v3' := V3.out
        have HA := Lib.hid (show w.heap.size ≤ ga by omega); have HB := Lib.hid (show w.heap.size ≤ gb by omega); have HC := Lib.hid (show w.heap.size ≤ gc by omega)
        have SN := Lib.hid hsa; have SM := Lib.hid hsb; have SO := Lib.hid hsc; have JN := Lib.hid hja; have JM := Lib.hid hjb; have JO := Lib.hid hjc; have AB := Lib.hid hab; have AC := Lib.hid hac; have BC := Lib.hid hbc; have HBJ := Lib.hid hbx; have HAJ := Lib.hid hna; have HBB := Lib.hid hnb; have HCC := Lib.hid hnc; have RA := Lib.hid hra; have RB := Lib.hid hrb; have RC := Lib.hid hrc
        have SSJ := SS0J.out
        clear hsa hsb hsc hja hjb hjc hab hac hbc hra hrb hrc hna hnb hnc hbx hnx RJ0 S0J hjl hsl9 hwj
        go_upto_region 13 with fail
        rw [HNB1.out]
        obtain ⟨wn, hwn⟩ : ∃ v, ((wv.setCell ⟨ga, 1, none⟩ (.int .i64 mA)).setCell ⟨gb, 2, none⟩ (.int .i64 nB)).setCell ⟨gc, 3, none⟩ (.int .i64 eC) = v := ⟨_, rfl⟩
        have ra9 : (((wv.setCell ⟨ga, 1, none⟩ (.int .i64 mA)).setCell ⟨gb, 2, none⟩ (.int .i64 nB)).setCell ⟨gc, 3, none⟩ (.int .i64 eC)).heap[ga]? = _ := row_farU (row_farU (row4_set1 RA.out _) AB.out _) AC.out _
        have rb9 : (((wv.setCell ⟨ga, 1, none⟩ (.int .i64 mA)).setCell ⟨gb, 2, none⟩ (.int .i64 nB)).setCell ⟨gc, 3, none⟩ (.int .i64 eC)).heap[gb]? = _ := row_farU (row4_set2 (row_farU RB.out (Ne.symm AB.out) _) _) BC.out _
        have rc9 : (((wv.setCell ⟨ga, 1, none⟩ (.int .i64 mA)).setCell ⟨gb, 2, none⟩ (.int .i64 nB)).setCell ⟨gc, 3, none⟩ (.int .i64 eC)).heap[gc]? = _ := row4_setc (row_farU (row_farU RC.out (Ne.symm AC.out) _) (Ne.symm BC.out) _) _
        have rj9 : (((wv.setCell ⟨ga, 1, none⟩ (.int .i64 mA)).setCell ⟨gb, 2, none⟩ (.int .i64 nB)).setCell ⟨gc, 3, none⟩ (.int .i64 eC)).heap[gj]? = _ := row_farU (row_farU (row_farU RJ.out JN.out _) JM.out _) JO.out _
        have hs0 : (((wv.setCell ⟨ga, 1, none⟩ (.int .i64 mA)).setCell ⟨gb, 2, none⟩ (.int .i64 nB)).setCell ⟨gc, 3, none⟩ (.int .i64 eC)).cell? ⟨gs, 0, none⟩ = _ := ((cell_offU _ SO.out).trans ((cell_offU _ SM.out).trans (cell_offU _ SN.out))).trans s0
        have hs1 : (((wv.setCell ⟨ga, 1, none⟩ (.int .i64 mA)).setCell ⟨gb, 2, none⟩ (.int .i64 nB)).setCell ⟨gc, 3, none⟩ (.int .i64 eC)).cell? ⟨gs, 1, none⟩ = _ := ((cell_offU _ SO.out).trans ((cell_offU _ SM.out).trans (cell_offU _ SN.out))).trans s1
        have hs2 : (((wv.setCell ⟨ga, 1, none⟩ (.int .i64 mA)).setCell ⟨gb, 2, none⟩ (.int .i64 nB)).setCell ⟨gc, 3, none⟩ (.int .i64 eC)).cell? ⟨gs, 2, none⟩ = _ := ((cell_offU _ SO.out).trans ((cell_offU _ SM.out).trans (cell_offU _ SN.out))).trans s2
        have hb9 : Below w.heap.size w (((wv.setCell ⟨ga, 1, none⟩ (.int .i64 mA)).setCell ⟨gb, 2, none⟩ (.int .i64 nB)).setCell ⟨gc, 3, none⟩ (.int .i64 eC)) := ((BB.out.setCell HA.out _).setCell HB.out _).setCell HC.out _
        have hss9 : Dfs (((wv.setCell ⟨ga, 1, none⟩ (.int .i64 mA)).setCell ⟨gb, 2, none⟩ (.int .i64 nB)).setCell ⟨gc, 3, none⟩ (.int .i64 eC)) (.slice aS ns cS) s := SSJ.below (((((HBJ.out).setCell HAJ.out _).setCell HBB.out _).setCell HCC.out _))
        rw [hwn] at ra9 rb9 rc9 rj9 hs0 hs1 hs2 hb9 hss9 ⊢
        clear hwn s0 s1 s2 a0 a1 a2 a3 fa0 fa1 fa2 fa3 b0 b1 b2 b3 fb0 fb1 fb2 fb3 c0 c1 c2 c3 fc0 fc1 fc2 fc3 B2 FB2 C3 FC3
        have s0 := hs0
        have s1 := hs1
        have s2 := hs2
        obtain ⟨a0, a1, a2, a3⟩ := row4f ra9
        obtain ⟨b0, b1, b2, b3⟩ := row4f rb9
        obtain ⟨c0, c1, c2, c3⟩ := row4f rc9
        obtain ⟨j0, j1, j2, j3⟩ := row4f rj9
        replace BB := Lib.hid hb9; replace SS := Lib.hid hss9
        clear hs0 hs1 hs2 ra9 rb9 rc9 rj9 hb9 hss9 RA RB RC RJ SSJ
        go_wp2_with (first
            | (go_at_call 23; refine (fits_any _ _ _ _ m e aS ns cS s _ SS.out HSS.out HL1.out).mono ?_; rintro x w9 ⟨rfl, hb1⟩; (first | rw [F0.out] | rw [FA.out] | rw [FB.out] | rw [FC.out]); replace s0 := cell_keep s0 hb1; replace s1 := cell_keep s1 hb1; replace s2 := cell_keep s2 hb1; replace a0 := cell_keep a0 hb1; replace a1 := cell_keep a1 hb1; replace a2 := cell_keep a2 hb1; replace a3 := cell_keep a3 hb1; replace b0 := cell_keep b0 hb1; replace b1 := cell_keep b1 hb1; replace b2 := cell_keep b2 hb1; replace b3 := cell_keep b3 hb1; replace c0 := cell_keep c0 hb1; replace c1 := cell_keep c1 hb1; replace c2 := cell_keep c2 hb1; replace c3 := cell_keep c3 hb1; replace j0 := cell_keep j0 hb1; replace j1 := cell_keep j1 hb1; replace j2 := cell_keep j2 hb1; replace j3 := cell_keep j3 hb1; replace SS := Lib.hid (SS.out.below hb1); replace BB := Lib.hid (below_step BB.out hb1); clear hb1)
            | (go_at_call 20; refine (rawake_any _).mono ?_; rintro e w9 ⟨rfl, hb1⟩; replace s0 := cell_keep s0 hb1; replace s1 := cell_keep s1 hb1; replace s2 := cell_keep s2 hb1; replace a0 := cell_keep a0 hb1; replace a1 := cell_keep a1 hb1; replace a2 := cell_keep a2 hb1; replace a3 := cell_keep a3 hb1; replace b0 := cell_keep b0 hb1; replace b1 := cell_keep b1 hb1; replace b2 := cell_keep b2 hb1; replace b3 := cell_keep b3 hb1; replace c0 := cell_keep c0 hb1; replace c1 := cell_keep c1 hb1; replace c2 := cell_keep c2 hb1; replace c3 := cell_keep c3 hb1; replace j0 := cell_keep j0 hb1; replace j1 := cell_keep j1 hb1; replace j2 := cell_keep j2 hb1; replace j3 := cell_keep j3 hb1; replace SS := Lib.hid (SS.out.below hb1); replace BB := Lib.hid (below_step BB.out hb1); clear hb1))
        go_ret
        exact ⟨rfl, BB.out⟩

theorem own : ownKnob Tryz.prog.godebug = none := by kernel_rfl
theorem laidOut : laidOutB Tryz.prog = true := by kernel_rfl

set_option maxRecDepth 100000 in
theorem lifted (os : Os) (started : os.Started) (H : Type) (enc : TypeId × Value → H) :
    ReturnsInHanded {} Tryz.checked os 7 .any (Rows.roomFitsSpec.pre6 enc Tryz.prog Tryz.f7 Rows.roomFitsRow.domain false) (Rows.roomFitsSpec.post enc Tryz.prog Tryz.f7 false true false false) := by
  refine returnsInHanded_of_change (C := Tryz.checked) own started (by kernel_rfl) Tryz.func7
    (ChangeSpec.witness6 (enc := enc) (C := Tryz.checked) false ⟨#[], #[.agg #[.int .i64 0, .int .i64 0, .slice none 0 0], .agg #[.int .i64 0, .int .i64 0, .int .i64 0, .int .i64 0], .int .u8 0], []⟩ 8 (by kernel_rfl) (by kernel_rfl) (by kernel_rfl) (by kernel_rfl)) ?_
  intro W base args ds gs before hval0 hW hcnd _
  have hval : ∀ (j : Nat) t v, Tryz.f7.params[j]? = some t → args[j]? = some v → Value.okWide Tryz.prog W .any base t v := hval0
  have hW' := hW
  obtain ⟨p, q, hA0, hV, rfl, hfz, hnd⟩ := hW
  have hA : DataW.TrodAll enc Tryz.prog W 0 (fun _ => true) true Tryz.f7.params.toList args.toList ds p := hA0
  rw [Tryz.params7] at hA hval
  obtain ⟨v0, vs0, d0, ds0, p0, q0, hargs, rfl, rfl, h0, r0⟩ := trodAll_cons hA
  obtain ⟨v1, vs1, d1, ds1, p1, q1, rfl, rfl, rfl, h1, r1⟩ := trodAll_cons r0
  obtain ⟨v2, vs2, d2, ds2, p2, q2, rfl, rfl, rfl, h2, r2⟩ := trodAll_cons r1
  obtain ⟨rfl, rfl, rfl⟩ := trodAll_nil r2
  obtain rfl : args = #[v0, v1, v2] := by cases args; simp_all
  obtain ⟨rfl, rfl⟩ := trodVars_none hV
  have k0 := h0
  have lt0 : ∀ x ∈ p0, x.block < W.heap.size := by obtain ⟨m, hm⟩ := k0; exact DataW.trod_lt m _ _ _ hm
  obtain ⟨z0, w0⟩ := use_open (hval 0 24 v0 rfl rfl) h0
  have k1 := h1
  have lt1 : ∀ x ∈ p1, x.block < W.heap.size := by obtain ⟨m, hm⟩ := k1; exact DataW.trod_lt m _ _ _ hm
  obtain ⟨z1, w1⟩ := lim_open (hval 1 43 v1 rfl rfl) h1
  obtain ⟨a2, rfl, rfl, rfl, w2⟩ := open_int Tryz.underlying5 (hval 2 5 v2 rfl rfl) h2
  clear hA0 hval0
  refine (walk _ z0 _ z1 a2 W w0 w1 w2).mono fun e W' ⟨he, bel⟩ => ?_
  subst he
  exact ⟨_, rfl, _, _, _, [], _, [], hW', trodAll_mk1 (shut_bool Tryz.underlying4 _), (trodAll_cons_mk (Below.trod laidOut (by kernel_rfl) (of_decide_eq_true (by kernel_rfl)) k0 bel lt0) (trodAll_cons_mk (Below.trod laidOut (by kernel_rfl) (of_decide_eq_true (by kernel_rfl)) k1 bel lt1) (trodAll_cons_mk (shut_int Tryz.underlying5 w2) trodAll_mk0))), rfl, bel.frame _, fun h => by cases h⟩

-- the given statement
theorem proved : Rows.RoomFitsSaid :=
  OpenClaim.holds_of_wide 7 Tryz.f7 rfl rfl rfl rfl rfl rfl rfl ⟨rfl, rfl, rfl, rfl, rfl⟩ rfl rfl rfl rfl rfl (by kernel_rfl) Tryz.func7 (by kernel_rfl)
    (of_decide_eq_true (by kernel_rfl)) (by unfold Func.isWrapper; first | (rw [if_pos (by decide +kernel)]; kernel_rfl) | (rw [if_neg (by decide +kernel)]; exact ⟨rfl, rfl⟩))
    (fun os started H enc _ => lifted os started H enc)
end Go.Proofs.YtglhjdbnpdoinaaGreat.roomFits
