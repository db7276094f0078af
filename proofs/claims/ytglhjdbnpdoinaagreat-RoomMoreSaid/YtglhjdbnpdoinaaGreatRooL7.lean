/- Of every use, every node (no more, and no longer, than are looked at) and all limits: with a manifest more, or a root requirement, nothing fits that did not; a node that was spoken of adds none; no condition. -/
import Derived.Test.YtglhjdbnpdoinaaGreatRows
import Derived.Test.YtglhjdbnpdoinaaGreatRooN
import Derived.ProofKit
import Derived.OpenShut
import Derived.ShutString
import Derived.ChangeOld
namespace Go.Proofs.YtglhjdbnpdoinaaGreat.roomMore
open Go.ChangeShapes Go.WideShapes Go.ChangeAt Go.RowKit
open Go.ChangeMaps (open_string shut_string)
set_option maxRecDepth 100000
set_option linter.unusedVariables false

theorem okU_small {u : Us} (h : u.ok = true) : okD u.s = true ∧ posD u.s = true := by
  obtain ⟨-, -, h3, h4⟩ := okU_parts h
  exact ⟨h4, h3⟩
theorem one_okD {n : Nd} (o : okN n = true) {z : Int} (h : z ≠ 0) (i : inD z = true) : okD [(n, z)] = true :=
  okD_of (byOk_iff.2 fun x hx => by rw [List.mem_singleton.1 hx]; exact ⟨h, i⟩) (checkN_of (fun x hx => by simp at hx; rw [hx]; exact o) (List.pairwise_cons.2 ⟨fun x hx => (by cases hx), List.Pairwise.nil⟩))
theorem one_smD {n : Nd} (o : smallN n) {z : Int} (h : fitI z) : ∀ x ∈ [(n, z)], smallD x := fun x hx => by rw [List.mem_singleton.1 hx]; exact ⟨o, h⟩
theorem more_len {s : List De} (h4 : okD s = true) (h3 : posD s = true) {n : Nd} (o : okN n = true) : (mergeD s (difL [] [n])).length = s.length + (if n ∈ keyD s then 0 else 1) ∧ (mergeD s (difL [] [n, n, n])).length = s.length + (if n ∈ keyD s then 0 else 1) := by
  rw [(dif_rep o).1, (dif_rep o).2]
  exact ⟨merge_one 1 (by decide) n o s (okD_ok h4) (okD_rise h4) (posD_iff.1 h3), merge_one 3 (by decide) n o s (okD_ok h4) (okD_rise h4) (posD_iff.1 h3)⟩
theorem keyD_takeU {l : List De} {k : Nat} (h : k < l.length) : keyD (l.take (k + 1)) = keyD (l.take k) ++ [(l.getD k zD).1] := by
  rw [List.take_succ_eq_append_getElem h, df_getD h]; unfold keyD; rw [List.map_append]; rfl
theorem eq_ndU (p v p' v' : List UInt8) (w : World) : Sem.run Tryz.prog (binOp .eql 26 (.agg #[.string (mkB p), .string (mkB v)]) (.agg #[.string (mkB p'), .string (mkB v')])) w = .ok (.bool (decide ((p, v) = (p', v')))) w := by
  rw [run_eql_struct, show (10000 : Nat) = 9998 + 1 + 1 from rfl, eqin_nd2]; rfl
theorem guard_ndU (op : BinOp) (a b : Operand) (xs ys : Array Value) (w : World) : Sem.run Tryz.prog (eqGuard op 26 a b (.agg xs) (.agg ys)) w = .ok () w := run_eqGuard_agg w op _ a b xs ys (by kernel_rfl)
set_option maxRecDepth 100000 in
set_option maxHeartbeats 6400000 in
theorem walk (M : Value) (u : Us) (Q : Value) (q : Nd) (V : Value) (l : Li) (w : World) (hM : UseIn w M u) (hQ : Q = .agg #[.string (mkB q.1), .string (mkB q.2)] ∧ fitsN q) (hV : LimIn V l) :
    Calls Tryz.prog 9 #[M, Q, V] w fun e w' => e = .returned (.bool true) ∧ Below w.heap.size w w' := by
  obtain ⟨⟨A, n, c, rfl, hk⟩, fm, fe, fs⟩ := hM
  obtain ⟨m, e, s0⟩ := u
  simp only at hk fm fe fs ⊢
  have hfw := fun w h => fewu_any m e A n c s0 w h fs
  have hsl := fewDs_len s0
  have hss := fewDs_small fs
  obtain ⟨s, hs⟩ : ∃ r, fewDs s0 = r := ⟨_, rfl⟩
  rw [hs] at hfw hsl hss
  obtain ⟨ns, hns⟩ : ∃ r, s.length = r := ⟨_, rfl⟩
  rw [hns] at hsl
  obtain ⟨rfl, fq⟩ := hQ
  obtain ⟨pq, vq⟩ := q
  simp only at fq ⊢
  have hsq := oneN_small (pq, vq)
  have hoq := fun w => one_any pq vq w fq.1 fq.2
  obtain ⟨q1, hq1⟩ : ∃ r, fewL pq = r := ⟨_, rfl⟩
  obtain ⟨q2, hq2⟩ : ∃ r, fewL vq = r := ⟨_, rfl⟩
  have hsq2 : smallN (q1, q2) := by rw [← hq1, ← hq2]; exact hsq
  try simp only at hoq
  rw [hq1, hq2] at hoq
  obtain ⟨rfl, fl1, fl2, fl3⟩ := hV
  obtain ⟨lt, lm, ln, le⟩ := l
  simp only at fl1 fl2 fl3 ⊢
  obtain ⟨W, gs, gq, gl, hW, hg, hg', hg'', r0, r1, r2, hb⟩ := boxUNL w (.int .i64 m) (.int .i64 e) (.slice A n c) (.string (mkB pq)) (.string (mkB vq)) (.int .i64 lt) (.int .i64 lm) (.int .i64 ln) (.int .i64 le) 24 26 43
  have SK0 := Lib.hid hk; have RS := Lib.hid r0; have RQ := Lib.hid r1; have RL := Lib.hid r2; have HFW := Lib.hid hfw; have HOQ := Lib.hid hoq; have HNS := Lib.hid hns; have HSS := Lib.hid hss; have HSQ := Lib.hid hsq2
  have HLS := Lib.hid (show w.heap.size ≤ gs by omega); have HLQ := Lib.hid (show w.heap.size ≤ gq by omega); have HQS := Lib.hid (show ¬ gq = gs by omega); have HLS2 := Lib.hid (show ¬ gl = gs by omega); have HLQ2 := Lib.hid (show ¬ gl = gq by omega)
  have BB := Lib.hid hb; have HW := Lib.hid hW; have HG := Lib.hid hg; have HG' := Lib.hid hg'; have HG'' := Lib.hid hg''
  clear hk r0 r1 r2 hfw hoq hns hss hsq hsq2 hb hW hg hg' hg'' hs hq1 hq2 fm fe fs fq fl1 fl2 fl3
  have e1 : ∀ args w, (callFunc 10 args).run Tryz.prog w = .ok (.enter 10 args) w := enters_of Tryz.func10 (by kernel_rfl) rfl
  have e2 : ∀ args w, (callFunc 11 args).run Tryz.prog w = .ok (.enter 11 args) w := enters_of Tryz.func11 (by kernel_rfl) rfl
  go_enter Tryz.func9, Tryz.ntmps9
  go_upto_region 1 with fail
  rw [HW.out, HG''.out, HG'.out, HG.out]
  refine rol_run (by kernel_rfl) [[], [0], [], [0, 1, 2], [0, 1, 2, 3], [0, 1, 2, 3, 4]] (by kernel_rfl) [14, 15, 16, 17] [[6], [0], [7], [2], [1, 6], [3, 7]] [0, 1, 0, 0, 3, 4, 3, 4, 6] [0, 0, 0, 0, 3, 4] [1000, 1000, 1000, 1000, 1000, 1000, 4, 5, 1000] [.val 14 (.agg #[.int .i64 m, .int .i64 e, .slice A n c]), .mem 15 (useG W.heap.size m e s), .val 16 (.agg #[.string (mkB pq), .string (mkB vq)]), .val 17 (.agg #[.string (mkB q1), .string (mkB q2)]), .mem 15 (boxUG gs 24), .box (gq) (.cells #[.string (mkB q1), .string (mkB q2)] 26), .box (gs) (.cells #[.int .i64 m, .int .i64 e, .slice A n c] 24), .box (gq) (.cells #[.string (mkB pq), .string (mkB vq)] 26), .box (gl) (.cells #[.int .i64 lt, .int .i64 lm, .int .i64 ln, .int .i64 le] 43)] (by kernel_rfl) ?_ (w.heap.size) (W.heap.size) rfl BB.out rfl (fun k => if k = gs then 3 else if k = gq then 4 else 6) ?_ ?_ ?_
  · intro j hj
    have hj3 : j < 9 := hj
    have hj2 : j = 0 ∨ j = 1 ∨ j = 2 ∨ j = 3 ∨ j = 4 ∨ j = 5 ∨ j = 6 ∨ j = 7 ∨ j = 8 := by omega
    clear hj hj3
    rcases hj2 with rfl | rfl | rfl | rfl | rfl | rfl | rfl | rfl | rfl
    · exact trivial
    · exact useG_near
    · exact trivial
    · exact trivial
    · exact boxUG_near
    · exact trivial
    · exact trivial
    · exact trivial
    · exact trivial
  · intro j hj0 hj
    have hj1 : 6 ≤ j := hj0
    have hj3 : j < 9 := hj
    have hj2 : j = 6 ∨ j = 7 ∨ j = 8 := by omega
    clear hj0 hj hj1 hj3
    rcases hj2 with rfl | rfl | rfl
    · exact ⟨RS.out, if_pos rfl⟩
    · exact ⟨RQ.out, (if_neg HQS.out).trans (if_pos rfl)⟩
    · exact ⟨RL.out, (if_neg HLS2.out).trans (if_neg HLQ2.out)⟩
  · intro i hi a wx who hG hF
    have hz : a.tmps.size = 119 := hG.size
    have hi3 : i < 6 := hi
    have hi2 : i = 0 ∨ i = 1 ∨ i = 2 ∨ i = 3 ∨ i = 4 ∨ i = 5 := by omega
    clear hi hi3
    rcases hi2 with rfl | rfl | rfl | rfl | rfl | rfl
    · exact rol_val rfl rfl rfl (by rw [hz]; decide) (ex_load rfl (eval_slot ((hG.slots 3 (by decide)).trans rfl)) (ld_use (hF 6 (by decide)).1)) hG.below
    · refine rol_calls rfl rfl rfl (by rw [hz]; decide) (ex_call rfl (by simp [eval_slot (hF 0 (by decide))]) e1) (HFW.out wx (SK0.out.below hG.below)) ?_ hG.below (Nat.le_trans BB.out.size hG.new)
      rintro e w1 ⟨u, rfl, hown, hb1⟩
      exact ⟨_, rfl, hb1, .inr (.inl ⟨_, u.ownBlock, rfl, fun b e => hown.lt b e, u, rfl, row_base hown hG.new, rfl⟩)⟩
    · exact rol_val rfl rfl rfl (by rw [hz]; decide) (ex_load rfl (eval_slot ((hG.slots 4 (by decide)).trans rfl)) (ld_node (row2 (hF 7 (by decide)).1).1 (row2 (hF 7 (by decide)).1).2.1)) hG.below
    · refine rol_calls rfl rfl rfl (by rw [hz]; decide) (ex_call rfl (by simp [eval_slot (hF 2 (by decide))]) e2) (HOQ.out wx) ?_ hG.below (Nat.le_trans BB.out.size hG.new)
      rintro e w1 ⟨rfl, hb1⟩
      exact ⟨_, rfl, hb1, .inl rfl⟩
    · exact rol_boxU rfl rfl rfl rfl (eval_slot ((hG.slots 3 (by decide)).trans rfl)) (hF 1 (by decide)) (hF 6 (by decide)) hG.below HLS.out
    · exact rol_boxN rfl rfl rfl rfl (eval_slot ((hG.slots 4 (by decide)).trans rfl)) (eval_slot (hF 3 (by decide))) (hF 7 (by decide)) hG.below HLQ.out
  · intro a wx who hG hF
    obtain ⟨v15, ob15, fv15, fo15, fp15⟩ := hF 1 (of_decide_eq_true (by kernel_rfl)) (of_decide_eq_true (by kernel_rfl))
    replace fv15 : a.tmps.getD 15 undef = v15 := eval_slot (s := 15) fv15
    have hbox := hF 4 (of_decide_eq_true (by kernel_rfl)) (of_decide_eq_true (by kernel_rfl))
    have hbq := hF 5 (of_decide_eq_true (by kernel_rfl)) (of_decide_eq_true (by kernel_rfl))
    have hbl := hF 8 (of_decide_eq_true (by kernel_rfl)) (of_decide_eq_true (by kernel_rfl))
    obtain ⟨p11, ob11, hp11, -, -, x11, y11, z11, hv11, hrow11⟩ := hbox
    have e11 : v15 = p11 := fv15.symm.trans (eval_slot hp11)
    subst e11
    clear hp11 ob11
    replace hbq := hbq.1
    replace hbl := hbl.1
    have hbx := hG.below
    have hnx := hG.new
    rw [hG.frame]
    simp only [List.foldl_cons, List.foldl_nil, List.setIfInBounds_toArray, List.set_cons_zero, List.set_cons_succ]
    generalize a.tmps.getD 14 undef = u14
    rw [fv15]
    generalize a.tmps.getD 16 undef = u16
    generalize a.tmps.getD 17 undef = u17
    clear hF hG fv15
    obtain ⟨x12, hx12, hrow, -⟩ := fp15
    obtain ⟨aS, cS, rfl, hd⟩ := dfsO hrow
    rw [hv11] at hx12
    injection hx12 with hx12
    injection hx12 with hx12
    injection hx12 with r1 hx12
    injection hx12 with r2 hx12
    injection hx12 with r3 _
    subst r1 r2 r3 hv11
    rw [HNS.out] at hd hrow11 ⊢
    obtain ⟨s0, s1, s2, -⟩ := row3 hrow11
    obtain ⟨qx0, qx1, -, -⟩ := row2 hbq
    have SS := Lib.hid hd
    obtain ⟨l0, l1, l2, l3⟩ := row4f hbl
    replace BB := Lib.hid hbx
    clear fo15 hrow hrow11 hbq hd hbx hnx SK0 RS RQ HFW HOQ hbl RL
    have s2 : ∀ x ∈ [(q1, q2), (q1, q2)], smallN x := fun x hx => by
      simp at hx; rw [hx]; exact HSQ.out
    have ka := fun V w h h' => take_any m e aS ns cS s q1 q2 V [(q1, q2), (q1, q2)] w h h' HSS.out HSQ.out s2 (by rw [HNS.out]; omega) (by simp)
    have kb := fun w h => rooton_any m e aS ns cS s q1 q2 w h HSS.out HSQ.out (by rw [HNS.out]; omega)
    have hB9 := fun w0 : World => nds_blk (l := [(q1, q2), (q1, q2)]) (heap_alloc_new w0 (.cells #[.string (mkB q1), .string (mkB q2), .string (mkB q1), .string (mkB q2)] 26)) (by simp)
    clear s2
    cases hyes : (Us.ok ⟨m, e, s⟩ && (allN2 [] && allN2 [(q1, q2)])) && ((toU ⟨m, e, s⟩ 1 [] [(q1, q2), (q1, q2), (q1, q2)]).ok && (toU ⟨m, e, s⟩ 0 [] [(q1, q2)]).ok)
    · have hne : (chgE ⟨m, e, s⟩ 1 [] [(q1, q2), (q1, q2), (q1, q2)]).2 ≠ 0 ∨ (chgE ⟨m, e, s⟩ 0 [] [(q1, q2)]).2 ≠ 0 := by
        have hal : allN2 [(q1, q2), (q1, q2), (q1, q2)] = allN2 [(q1, q2)] := by unfold allN2; simp
        cases h1 : (Us.ok ⟨m, e, s⟩ && (allN2 [] && allN2 [(q1, q2)]))
        · right; rw [chgE_no h1]; show (1 : Int) ≠ 0; decide
        · have h1' : (Us.ok ⟨m, e, s⟩ && (allN2 [] && allN2 [(q1, q2), (q1, q2), (q1, q2)])) = true := by rw [hal]; exact h1
          rw [h1, Bool.true_and] at hyes
          cases h2 : (toU ⟨m, e, s⟩ 1 [] [(q1, q2), (q1, q2), (q1, q2)]).ok
          · left; rw [chgE_far h1' h2, if_pos rfl]; show (4 : Int) ≠ 0; decide
          · rw [h2, Bool.true_and] at hyes
            right; rw [chgE_far h1 hyes, if_pos rfl]; show (4 : Int) ≠ 0; decide
      clear hyes
      obtain ⟨RA, hRA⟩ : ∃ r, chgE ⟨m, e, s⟩ 1 [] [(q1, q2), (q1, q2), (q1, q2)] = r := ⟨_, rfl⟩
      obtain ⟨RB, hRB⟩ : ∃ r, chgE ⟨m, e, s⟩ 0 [] [(q1, q2)] = r := ⟨_, rfl⟩
      rw [hRA] at ka hne
      rw [hRB] at kb hne
      obtain ⟨⟨ma, ea, sa⟩, za⟩ := RA
      obtain ⟨⟨mb, eb, sb⟩, zb⟩ := RB
      simp only at ka kb hne
      obtain ⟨na, hna⟩ : ∃ n, sa.length = n := ⟨_, rfl⟩
      obtain ⟨nb, hnb⟩ : ∃ n, sb.length = n := ⟨_, rfl⟩
      have HNA := Lib.hid hna; have HNB := Lib.hid hnb; have KA := Lib.hid ka; have KB := Lib.hid kb; have HNE := Lib.hid hne
      clear hRA hRB hna hnb ka kb hne
      obtain ⟨wr, hwr⟩ : ∃ r, r = wx := ⟨_, rfl⟩
      subst hwr
      have BLK := Lib.hid (show Below wr.heap.size wr (wr.alloc (.cells #[.string (mkB q1), .string (mkB q2), .string (mkB q1), .string (mkB q2)] 26)) from (Below.refl _ _).alloc (Nat.le_refl _) _)
      have HB9 := Lib.hid (hB9 wr)
      clear hB9
      go_upto_region 3 with (go_at_call 13; refine (KA.out _ _ (SS.out.below BLK.out) HB9.out).mono ?_; rintro e w1 ⟨v1, rfl, hrow, hb1⟩; obtain ⟨pA, cA, rfl, hd⟩ := dfsO hrow; rw [HNA.out] at hd ⊢; have SA := Lib.hid hd; replace hb1 := below_step BLK.out hb1; replace s0 := cell_keep s0 hb1; replace s1 := cell_keep s1 hb1; replace s2 := cell_keep s2 hb1; replace qx0 := cell_keep qx0 hb1; replace qx1 := cell_keep qx1 hb1; replace l0 := cell_keep l0 hb1; replace l1 := cell_keep l1 hb1; replace l2 := cell_keep l2 hb1; replace l3 := cell_keep l3 hb1; replace SS := Lib.hid (SS.out.below hb1); replace BB := Lib.hid (below_step BB.out hb1); clear hrow hd hb1 BLK KA HB9)
      obtain ⟨WA, gA, hW2, hg2, hr2, hb1⟩ := boxU w1 (.int .i64 ma) (.int .i64 ea) (.slice pA na cA) 24
      rw [hW2, hg2]
      replace s0 := cell_keep s0 hb1; replace s1 := cell_keep s1 hb1; replace s2 := cell_keep s2 hb1; replace qx0 := cell_keep qx0 hb1; replace qx1 := cell_keep qx1 hb1; replace l0 := cell_keep l0 hb1; replace l1 := cell_keep l1 hb1; replace l2 := cell_keep l2 hb1; replace l3 := cell_keep l3 hb1; replace SS := Lib.hid (SS.out.below hb1); replace SA := Lib.hid (SA.out.below hb1); replace BB := Lib.hid (below_step BB.out hb1)
      obtain ⟨a0, a1, a2, -⟩ := row3 hr2
      clear hW2 hg2 hr2 hb1
      go_upto_region 4 with (go_at_call 22; refine (KB.out _ SS.out).mono ?_; rintro e w1 ⟨v1, rfl, hrow, hb1⟩; obtain ⟨pB, cB, rfl, hd⟩ := dfsO hrow; rw [HNB.out] at hd ⊢; have SB := Lib.hid hd; replace s0 := cell_keep s0 hb1; replace s1 := cell_keep s1 hb1; replace s2 := cell_keep s2 hb1; replace qx0 := cell_keep qx0 hb1; replace qx1 := cell_keep qx1 hb1; replace l0 := cell_keep l0 hb1; replace l1 := cell_keep l1 hb1; replace l2 := cell_keep l2 hb1; replace l3 := cell_keep l3 hb1; replace a0 := cell_keep a0 hb1; replace a1 := cell_keep a1 hb1; replace a2 := cell_keep a2 hb1; replace SS := Lib.hid (SS.out.below hb1); replace SA := Lib.hid (SA.out.below hb1); replace BB := Lib.hid (below_step BB.out hb1); clear hrow hd hb1 KB)
      obtain ⟨WB, gB, hW2, hg2, hr2, hb1⟩ := boxU w1 (.int .i64 mb) (.int .i64 eb) (.slice pB nb cB) 24
      rw [hW2, hg2]
      replace s0 := cell_keep s0 hb1; replace s1 := cell_keep s1 hb1; replace s2 := cell_keep s2 hb1; replace qx0 := cell_keep qx0 hb1; replace qx1 := cell_keep qx1 hb1; replace l0 := cell_keep l0 hb1; replace l1 := cell_keep l1 hb1; replace l2 := cell_keep l2 hb1; replace l3 := cell_keep l3 hb1; replace a0 := cell_keep a0 hb1; replace a1 := cell_keep a1 hb1; replace a2 := cell_keep a2 hb1; replace SS := Lib.hid (SS.out.below hb1); replace SA := Lib.hid (SA.out.below hb1); replace SB := Lib.hid (SB.out.below hb1); replace BB := Lib.hid (below_step BB.out hb1)
      obtain ⟨b0, b1, b2, -⟩ := row3 hr2
      clear hW2 hg2 hr2 hb1
      by_cases hza : za = 0
      · have hzb : zb ≠ 0 := by rcases HNE.out with h | h; exact absurd hza h; exact h
        have d1 : (za != 0) = false := by simp [hza]
        have d2 : (zb != 0) = true := by simp [hzb]
        clear hza hzb
        go_wp2_with (go_at_call 20; refine (rawake_any _).mono ?_; rintro e w9 ⟨rfl, hb1⟩; replace s0 := cell_keep s0 hb1; replace s1 := cell_keep s1 hb1; replace s2 := cell_keep s2 hb1; replace qx0 := cell_keep qx0 hb1; replace qx1 := cell_keep qx1 hb1; replace l0 := cell_keep l0 hb1; replace l1 := cell_keep l1 hb1; replace l2 := cell_keep l2 hb1; replace l3 := cell_keep l3 hb1; replace a0 := cell_keep a0 hb1; replace a1 := cell_keep a1 hb1; replace a2 := cell_keep a2 hb1; replace b0 := cell_keep b0 hb1; replace b1 := cell_keep b1 hb1; replace b2 := cell_keep b2 hb1; replace SS := Lib.hid (SS.out.below hb1); replace SA := Lib.hid (SA.out.below hb1); replace SB := Lib.hid (SB.out.below hb1); replace BB := Lib.hid (below_step BB.out hb1); clear hb1)
        go_ret
        exact ⟨rfl, BB.out⟩
      · have d1 : (za != 0) = true := by simp [hza]
        clear hza
        go_wp2_with (go_at_call 20; refine (rawake_any _).mono ?_; rintro e w9 ⟨rfl, hb1⟩; replace s0 := cell_keep s0 hb1; replace s1 := cell_keep s1 hb1; replace s2 := cell_keep s2 hb1; replace qx0 := cell_keep qx0 hb1; replace qx1 := cell_keep qx1 hb1; replace l0 := cell_keep l0 hb1; replace l1 := cell_keep l1 hb1; replace l2 := cell_keep l2 hb1; replace l3 := cell_keep l3 hb1; replace a0 := cell_keep a0 hb1; replace a1 := cell_keep a1 hb1; replace a2 := cell_keep a2 hb1; replace b0 := cell_keep b0 hb1; replace b1 := cell_keep b1 hb1; replace b2 := cell_keep b2 hb1; replace SS := Lib.hid (SS.out.below hb1); replace SA := Lib.hid (SA.out.below hb1); replace SB := Lib.hid (SB.out.below hb1); replace BB := Lib.hid (below_step BB.out hb1); clear hb1)
        go_ret
        exact ⟨rfl, BB.out⟩
    · obtain ⟨h1, h2⟩ := Bool.and_eq_true_iff.1 hyes
      obtain ⟨h3, h4⟩ := Bool.and_eq_true_iff.1 h2
      obtain ⟨hok, h5⟩ := Bool.and_eq_true_iff.1 h1
      have hal : allN2 [(q1, q2), (q1, q2), (q1, q2)] = allN2 [(q1, q2)] := by unfold allN2; simp
      have hq : okN (q1, q2) = true := allN2_iff.1 (Bool.and_eq_true_iff.1 h5).2 _ (List.mem_singleton.2 rfl)
      have h1' : (Us.ok ⟨m, e, s⟩ && (allN2 [] && allN2 [(q1, q2), (q1, q2), (q1, q2)])) = true := by rw [hal]; exact h1
      rw [chgE_yes h1' h3] at ka
      rw [chgE_yes h1 h4] at kb
      obtain ⟨hod, hpd⟩ := okU_small hok
      obtain ⟨len1, len3⟩ := more_len hod hpd hq
      have rg := ok_ranges hok
      simp only at rg
      have t1 : toU ⟨m, e, s⟩ 1 [] [(q1, q2), (q1, q2), (q1, q2)] = ⟨m + 1, e + 2, mergeD s (difL [] [(q1, q2), (q1, q2), (q1, q2)])⟩ := by unfold toU; simp
      have t2 : toU ⟨m, e, s⟩ 0 [] [(q1, q2)] = ⟨m, e + 1, mergeD s (difL [] [(q1, q2)])⟩ := by unfold toU; simp
      rw [t1] at ka h3
      rw [t2] at kb h4
      obtain ⟨sa, hsa⟩ : ∃ r, mergeD s (difL [] [(q1, q2), (q1, q2), (q1, q2)]) = r := ⟨_, rfl⟩
      obtain ⟨sb, hsb⟩ : ∃ r, mergeD s (difL [] [(q1, q2)]) = r := ⟨_, rfl⟩
      have hda : ∀ x ∈ sa, smallD x := by rw [← hsa, (dif_rep hq).2]; exact merge_smallU hod (one_okD hq (by decide) (by decide)) HSS.out (one_smD HSQ.out (by unfold fitI; decide))
      have hdb : ∀ x ∈ sb, smallD x := by rw [← hsb, (dif_rep hq).1]; exact merge_smallU hod (one_okD hq (by decide) (by decide)) HSS.out (one_smD HSQ.out (by unfold fitI; decide))
      rw [hsa] at ka h3 len3
      rw [hsb] at kb h4 len1
      rw [HNS.out] at len1 len3
      simp only at ka kb
      obtain ⟨mo, hmo⟩ : ∃ k : Nat, (if (q1, q2) ∈ keyD s then 0 else 1) = k := ⟨_, rfl⟩
      rw [hmo] at len1 len3
      have hmo1 : mo ≤ 1 := by rw [← hmo]; split <;> omega
      obtain ⟨na, hna⟩ : ∃ n, n = ns + mo := ⟨_, rfl⟩
      rw [← hna] at len1 len3
      have kf := fitE_yes (l := ⟨lt, lm, ln, le⟩) hok
      have kfa := fitE_yes (l := ⟨lt, lm, ln, le⟩) h3
      have kfb := fitE_yes (l := ⟨lt, lm, ln, le⟩) h4
      have HDA := Lib.hid hda; have HDB := Lib.hid hdb; have HL0 := Lib.hid (show s.length ≤ 100000 by rw [HNS.out]; omega); have HL1 := Lib.hid (show sa.length ≤ 100000 by rw [len3]; omega); have HL2 := Lib.hid (show sb.length ≤ 100000 by rw [len1]; omega)
      have dwa : fitU ⟨lt, lm, ln, le⟩ ⟨m, e, s⟩ ≠ 0 → fitU ⟨lt, lm, ln, le⟩ ⟨m + 1, e + 2, sa⟩ ≠ 0 := fun h => fit_down h (by simp only; omega) (by simp only; rw [len3, HNS.out]; omega) (by simp only; omega)
      have dwb : fitU ⟨lt, lm, ln, le⟩ ⟨m, e, s⟩ ≠ 0 → fitU ⟨lt, lm, ln, le⟩ ⟨m, e + 1, sb⟩ ≠ 0 := fun h => fit_down h (by simp only; omega) (by simp only; rw [len1, HNS.out]; omega) (by simp only; omega)
      obtain ⟨zf, hzf⟩ : ∃ z, fitU ⟨lt, lm, ln, le⟩ ⟨m, e, s⟩ = z := ⟨_, rfl⟩
      obtain ⟨za, hza⟩ : ∃ z, fitU ⟨lt, lm, ln, le⟩ ⟨m + 1, e + 2, sa⟩ = z := ⟨_, rfl⟩
      obtain ⟨zb, hzb⟩ : ∃ z, fitU ⟨lt, lm, ln, le⟩ ⟨m, e + 1, sb⟩ = z := ⟨_, rfl⟩
      rw [hzf] at kf dwa dwb
      rw [hza] at kfa dwa
      rw [hzb] at kfb dwb
      obtain ⟨m1, hm1⟩ : ∃ z, m + 1 = z := ⟨_, rfl⟩
      obtain ⟨e2', he2⟩ : ∃ z, e + 2 = z := ⟨_, rfl⟩
      obtain ⟨e1', he1⟩ : ∃ z, e + 1 = z := ⟨_, rfl⟩
      rw [hm1] at ka kfa
      rw [he2] at ka kfa
      rw [he1] at kb kfb
      have w1' : wrap64 (m + 1) = m1 := by rw [← hm1]; exact IntWalk.wrap64_in _ (by omega)
      have w2' : wrap64 (e + 2) = e2' := by rw [← he2]; exact IntWalk.wrap64_in _ (by omega)
      have w3' : wrap64 (e + 1) = e1' := by rw [← he1]; exact IntWalk.wrap64_in _ (by omega)
      have HNA := Lib.hid len3; have HNB := Lib.hid len1; have KA := Lib.hid ka; have KB := Lib.hid kb; have FE := Lib.hid kf; have FEA := Lib.hid kfa; have FEB := Lib.hid kfb; have DWA := Lib.hid dwa; have DWB := Lib.hid dwb; have W1 := Lib.hid w1'; have W2 := Lib.hid w2'; have W3 := Lib.hid w3'; have HMO := Lib.hid hmo; have HNAE := Lib.hid hna
      clear hyes h1 h2 h3 h4 h5 hok hal hq h1' hod hpd len1 len3 t1 t2 hsa hsb hda hdb ka kb kf kfa kfb dwa dwb hzf hza hzb w1' w2' w3' hm1 he2 he1 hmo rg hna
      obtain ⟨wr, hwr⟩ : ∃ r, r = wx := ⟨_, rfl⟩
      subst hwr
      have BLK := Lib.hid (show Below wr.heap.size wr (wr.alloc (.cells #[.string (mkB q1), .string (mkB q2), .string (mkB q1), .string (mkB q2)] 26)) from (Below.refl _ _).alloc (Nat.le_refl _) _)
      have HB9 := Lib.hid (hB9 wr)
      clear hB9
      go_upto_region 3 with (go_at_call 13; refine (KA.out _ _ (SS.out.below BLK.out) HB9.out).mono ?_; rintro e w1 ⟨v1, rfl, hrow, hb1⟩; obtain ⟨pA, cA, rfl, hd⟩ := dfsO hrow; rw [HNA.out] at hd ⊢; have SA := Lib.hid hd; replace hb1 := below_step BLK.out hb1; replace s0 := cell_keep s0 hb1; replace s1 := cell_keep s1 hb1; replace s2 := cell_keep s2 hb1; replace qx0 := cell_keep qx0 hb1; replace qx1 := cell_keep qx1 hb1; replace l0 := cell_keep l0 hb1; replace l1 := cell_keep l1 hb1; replace l2 := cell_keep l2 hb1; replace l3 := cell_keep l3 hb1; replace SS := Lib.hid (SS.out.below hb1); replace BB := Lib.hid (below_step BB.out hb1); clear hrow hd hb1 BLK KA HB9)
      obtain ⟨WA, gA, hW2, hg2, hr2, hb1⟩ := boxU w1 (.int .i64 m1) (.int .i64 e2') (.slice pA na cA) 24
      rw [hW2, hg2]
      replace s0 := cell_keep s0 hb1; replace s1 := cell_keep s1 hb1; replace s2 := cell_keep s2 hb1; replace qx0 := cell_keep qx0 hb1; replace qx1 := cell_keep qx1 hb1; replace l0 := cell_keep l0 hb1; replace l1 := cell_keep l1 hb1; replace l2 := cell_keep l2 hb1; replace l3 := cell_keep l3 hb1; replace SS := Lib.hid (SS.out.below hb1); replace SA := Lib.hid (SA.out.below hb1); replace BB := Lib.hid (below_step BB.out hb1)
      obtain ⟨a0, a1, a2, -⟩ := row3 hr2
      clear hW2 hg2 hr2 hb1
      go_upto_region 4 with (go_at_call 22; refine (KB.out _ SS.out).mono ?_; rintro e w1 ⟨v1, rfl, hrow, hb1⟩; obtain ⟨pB, cB, rfl, hd⟩ := dfsO hrow; rw [HNB.out] at hd ⊢; have SB := Lib.hid hd; replace s0 := cell_keep s0 hb1; replace s1 := cell_keep s1 hb1; replace s2 := cell_keep s2 hb1; replace qx0 := cell_keep qx0 hb1; replace qx1 := cell_keep qx1 hb1; replace l0 := cell_keep l0 hb1; replace l1 := cell_keep l1 hb1; replace l2 := cell_keep l2 hb1; replace l3 := cell_keep l3 hb1; replace a0 := cell_keep a0 hb1; replace a1 := cell_keep a1 hb1; replace a2 := cell_keep a2 hb1; replace SS := Lib.hid (SS.out.below hb1); replace SA := Lib.hid (SA.out.below hb1); replace BB := Lib.hid (below_step BB.out hb1); clear hrow hd hb1 KB)
      obtain ⟨WB, gB, hW2, hg2, hr2, hb1⟩ := boxU w1 (.int .i64 m) (.int .i64 e1') (.slice pB na cB) 24
      rw [hW2, hg2]
      replace s0 := cell_keep s0 hb1; replace s1 := cell_keep s1 hb1; replace s2 := cell_keep s2 hb1; replace qx0 := cell_keep qx0 hb1; replace qx1 := cell_keep qx1 hb1; replace l0 := cell_keep l0 hb1; replace l1 := cell_keep l1 hb1; replace l2 := cell_keep l2 hb1; replace l3 := cell_keep l3 hb1; replace a0 := cell_keep a0 hb1; replace a1 := cell_keep a1 hb1; replace a2 := cell_keep a2 hb1; replace SS := Lib.hid (SS.out.below hb1); replace SA := Lib.hid (SA.out.below hb1); replace SB := Lib.hid (SB.out.below hb1); replace BB := Lib.hid (below_step BB.out hb1)
      obtain ⟨b0, b1, b2, -⟩ := row3 hr2
      clear hW2 hg2 hr2 hb1
      by_cases hz : zf = 0
      · have d1 : (zf != 0) = false := by simp [hz]
        clear hz
        go_upto_region 9 with (go_at_call 23; refine (fits_any lt lm ln le _ _ _ _ _ _ _ (by first | exact SS.out | exact SA.out | exact SB.out) (by first | exact HSS.out | exact HDA.out | exact HDB.out) (by first | exact HL0.out | exact HL1.out | exact HL2.out)).mono ?_; rintro e w9 ⟨rfl, hb1⟩; (first | rw [FE.out] | rw [FEA.out] | rw [FEB.out]); replace s0 := cell_keep s0 hb1; replace s1 := cell_keep s1 hb1; replace s2 := cell_keep s2 hb1; replace qx0 := cell_keep qx0 hb1; replace qx1 := cell_keep qx1 hb1; replace l0 := cell_keep l0 hb1; replace l1 := cell_keep l1 hb1; replace l2 := cell_keep l2 hb1; replace l3 := cell_keep l3 hb1; replace a0 := cell_keep a0 hb1; replace a1 := cell_keep a1 hb1; replace a2 := cell_keep a2 hb1; replace b0 := cell_keep b0 hb1; replace b1 := cell_keep b1 hb1; replace b2 := cell_keep b2 hb1; replace SS := Lib.hid (SS.out.below hb1); replace SA := Lib.hid (SA.out.below hb1); replace SB := Lib.hid (SB.out.below hb1); replace BB := Lib.hid (below_step BB.out hb1); clear hb1)
        obtain ⟨wl, hwl⟩ : ∃ r, r = w9 := ⟨_, rfl⟩
        subst hwl
        go_wp2
        go_loopw [12, 13] (fun v i wr => ∃ (k t : Nat), k ≤ ns ∧ i = .int .i64 k ∧ v = .int .i64 t ∧ Hid (t = 0 ∧ (q1, q2) ∈ keyD (s.take k) ∨ t = 1 ∧ ¬ (q1, q2) ∈ keyD (s.take k)) ∧ Hid (Below wl.heap.size wl wr)) (fun _ i _ => ns - (intOf i).toNat)
        case atStart => exact ⟨0, 1, Nat.zero_le _, rfl, rfl, Lib.hid (.inr ⟨rfl, by simp⟩), Lib.hid (Below.refl _ _)⟩
        case round =>
          obtain ⟨k, t, hk, rfl, rfl, HT, HBW⟩ := hrel
          replace s0 := cell_keep s0 HBW.out
          replace s1 := cell_keep s1 HBW.out
          replace s2 := cell_keep s2 HBW.out
          replace qx0 := cell_keep qx0 HBW.out
          replace qx1 := cell_keep qx1 HBW.out
          replace l0 := cell_keep l0 HBW.out
          replace l1 := cell_keep l1 HBW.out
          replace l2 := cell_keep l2 HBW.out
          replace l3 := cell_keep l3 HBW.out
          replace a0 := cell_keep a0 HBW.out
          replace a1 := cell_keep a1 HBW.out
          replace a2 := cell_keep a2 HBW.out
          replace b0 := cell_keep b0 HBW.out
          replace b1 := cell_keep b1 HBW.out
          replace b2 := cell_keep b2 HBW.out
          replace SS := Lib.hid (SS.out.below HBW.out)
          replace SA := Lib.hid (SA.out.below HBW.out)
          replace SB := Lib.hid (SB.out.below HBW.out)
          replace BB := Lib.hid (below_step BB.out HBW.out)
          by_cases hlt : k < ns
          · have hkl : k < s.length := by rw [HNS.out]; exact hlt
            obtain ⟨bs, os, rfl, -, k0, k1, -⟩ := SS.out.at k hkl
            have htk := keyD_takeU hkl
            obtain ⟨y, hy⟩ : ∃ y, y = s.getD k zD := ⟨_, rfl⟩
            rw [← hy] at k0 k1 htk
            obtain ⟨⟨y1, y2⟩, z⟩ := y
            simp only at k0 k1 htk
            have heq := eq_ndU y1 y2 q1 q2
            obtain ⟨o, ho⟩ : ∃ o, decide ((y1, y2) = (q1, q2)) = o := ⟨_, rfl⟩
            rw [ho] at heq
            have HEQ := Lib.hid heq; have HTK := Lib.hid htk; have HO := Lib.hid ho; have HLT := Lib.hid hlt
            clear hy heq htk ho
            have hkb : (k : Int) < (ns : Int) := by omega
            go_upto_region 13 with fail
            refine rol_run (by kernel_rfl) [[], [0], [], [0, 1, 2], [0, 1, 2, 3], [0, 1, 2, 3, 4], [], [0, 1, 2, 3, 4, 5, 6]] (by kernel_rfl) [64, 65, 66, 67, 68, 69, 70, 71] [[], [0], [], [1, 2], [3], [4], [], [5, 6]] [0, 0, 0, 0, 0, 0, 0, 0] [0, 0, 0, 0, 0, 0, 0, 0] [1000, 1000, 1000, 1000, 1000, 1000, 1000, 1000] [.val 64 (.pointer (some ⟨gs, 2, none⟩)), .val 65 (.slice (some ⟨bs, os, none⟩) ns cS), .val 66 (.int .i64 (k : Int)), .val 67 (.pointer (some ⟨bs, os + k * 3, none⟩)), .val 68 (.pointer (some ⟨bs, os + k * 3, none⟩)), .val 69 (.agg #[.string (mkB y1), .string (mkB y2)]), .val 70 (.agg #[.string (mkB q1), .string (mkB q2)]), .val 71 (.bool o)] (by kernel_rfl) ?_ (wr.heap.size) (wr.heap.size) rfl (Below.refl _ _) rfl (fun _ => 0) ?_ ?_ ?_
            · intro j hj
              have hj3 : j < 8 := hj
              have hj2 : j = 0 ∨ j = 1 ∨ j = 2 ∨ j = 3 ∨ j = 4 ∨ j = 5 ∨ j = 6 ∨ j = 7 := by omega
              clear hj hj3
              rcases hj2 with rfl | rfl | rfl | rfl | rfl | rfl | rfl | rfl
              · exact trivial
              · exact trivial
              · exact trivial
              · exact trivial
              · exact trivial
              · exact trivial
              · exact trivial
              · exact trivial
            · intro j hj0 hj
              exact absurd hj (Nat.not_lt.2 hj0)
            · intro i hi a wx who hG hF
              have hz : a.tmps.size = 119 := hG.size
              have hi3 : i < 8 := hi
              have hi2 : i = 0 ∨ i = 1 ∨ i = 2 ∨ i = 3 ∨ i = 4 ∨ i = 5 ∨ i = 6 ∨ i = 7 := by omega
              clear hi hi3
              rcases hi2 with rfl | rfl | rfl | rfl | rfl | rfl | rfl | rfl
              · exact rol_val rfl rfl rfl (by rw [hz]; decide) (ex_field rfl (eval_slot ((hG.slots 3 (by decide)).trans rfl)) (by go_simp)) hG.below
              · exact rol_val rfl rfl rfl (by rw [hz]; decide) (ex_load rfl (eval_slot (hF 0 (by decide))) (ld_dfs (cell_keep s2 hG.below))) hG.below
              · exact rol_val rfl rfl rfl (by rw [hz]; decide) (ex_move (Or.inl rfl) (eval_slot ((hG.slots 13 (by decide)).trans rfl))) hG.below
              · exact rol_val rfl rfl rfl (by rw [hz]; decide) (ex_index rfl (eval_slot (hF 1 (by decide))) (eval_slot (hF 2 (by decide))) (idx_df HLT.out)) hG.below
              · exact rol_val rfl rfl rfl (by rw [hz]; decide) (ex_field rfl (eval_slot (hF 3 (by decide))) (by go_simp)) hG.below
              · exact rol_val rfl rfl rfl (by rw [hz]; decide) (ex_load rfl (eval_slot (hF 4 (by decide))) (ld_node (cell_keep k0 hG.below) (cell_keep k1 hG.below))) hG.below
              · exact rol_val rfl rfl rfl (by rw [hz]; decide) (ex_load rfl (eval_slot ((hG.slots 4 (by decide)).trans rfl)) (ld_node (cell_keep qx0 hG.below) (cell_keep qx1 hG.below))) hG.below
              · exact rol_val rfl rfl rfl (by rw [hz]; decide) (ex_bin rfl (eval_slot (hF 5 (by decide))) (eval_slot (hF 6 (by decide))) (guard_ndU _ _ _ _ _ _) (HEQ.out wx)) hG.below
            · intro a wx who hG hF
              have fv71 : a.tmps.getD 71 undef = .bool o := eval_slot (s := 71) (hF 7 (of_decide_eq_true (by kernel_rfl)) (of_decide_eq_true (by kernel_rfl)))
              have hbx := hG.below
              have hnx := hG.new
              rw [hG.frame]
              simp only [List.foldl_cons, List.foldl_nil, List.setIfInBounds_toArray, List.set_cons_zero, List.set_cons_succ]
              generalize a.tmps.getD 64 undef = u64
              generalize a.tmps.getD 65 undef = u65
              generalize a.tmps.getD 66 undef = u66
              generalize a.tmps.getD 67 undef = u67
              generalize a.tmps.getD 68 undef = u68
              generalize a.tmps.getD 69 undef = u69
              generalize a.tmps.getD 70 undef = u70
              rw [fv71]
              clear hF hG fv71
              have HBN := Lib.hid (below_step HBW.out hbx)
              clear hbx hnx
              cases o
              · have HT2 : Hid (t = 0 ∧ (q1, q2) ∈ keyD (s.take (k + 1)) ∨ t = 1 ∧ ¬ (q1, q2) ∈ keyD (s.take (k + 1))) := Lib.hid (by
                  have h9 : ¬ (q1, q2) = (y1, y2) := fun q => of_decide_eq_false HO.out q.symm
                  rw [HTK.out, List.mem_append, List.mem_singleton]
                  rcases HT.out with ⟨h7, h8⟩ | ⟨h7, h8⟩
                  · exact .inl ⟨h7, .inl h8⟩
                  · exact .inr ⟨h7, fun q => q.elim h8 h9⟩)
                go_wp2
                go_roundw
                case rel => exact ⟨k + 1, t, by omega, by go_num, rfl, HT2, HBN⟩
                case measure => simp [intOf]; omega
              · have HT2 : Hid ((0 : Nat) = 0 ∧ (q1, q2) ∈ keyD (s.take (k + 1)) ∨ (0 : Nat) = 1 ∧ ¬ (q1, q2) ∈ keyD (s.take (k + 1))) := Lib.hid (.inl ⟨rfl, by rw [HTK.out, ← of_decide_eq_true HO.out]; exact List.mem_append_right _ (List.mem_singleton.2 rfl)⟩)
                go_wp2
                go_roundw
                case rel => exact ⟨k + 1, 0, by omega, by go_num, rfl, HT2, HBN⟩
                case measure => simp [intOf]; omega
          · have e9 : k = ns := by omega
            subst e9
            have ht := HT.out
            rw [List.take_of_length_le (by rw [HNS.out]; exact Nat.le_refl _)] at ht
            have htm : mo = t := by
              rw [← HMO.out]
              rcases ht with ⟨h7, h8⟩ | ⟨h7, h8⟩
              · rw [if_pos h8, h7]
              · rw [if_neg h8, h7]
            subst htm
            clear ht
            have w1' := W1.out
            have w2' := W2.out
            have w3' := W3.out
            have w4' : IntKind.i64.wrap ((k : Int) + (mo : Int)) = (na : Int) := by rw [HNAE.out]; push_cast; exact IntWalk.i64_in _ (by omega)
            go_wp2_with (go_at_call 20; refine (rawake_any _).mono ?_; rintro e w9 ⟨rfl, hb1⟩; replace s0 := cell_keep s0 hb1; replace s1 := cell_keep s1 hb1; replace s2 := cell_keep s2 hb1; replace qx0 := cell_keep qx0 hb1; replace qx1 := cell_keep qx1 hb1; replace l0 := cell_keep l0 hb1; replace l1 := cell_keep l1 hb1; replace l2 := cell_keep l2 hb1; replace l3 := cell_keep l3 hb1; replace a0 := cell_keep a0 hb1; replace a1 := cell_keep a1 hb1; replace a2 := cell_keep a2 hb1; replace b0 := cell_keep b0 hb1; replace b1 := cell_keep b1 hb1; replace b2 := cell_keep b2 hb1; replace SS := Lib.hid (SS.out.below hb1); replace SA := Lib.hid (SA.out.below hb1); replace SB := Lib.hid (SB.out.below hb1); replace BB := Lib.hid (below_step BB.out hb1); clear hb1)
            go_ret
            exact ⟨rfl, BB.out⟩

      · have d1 : (zf != 0) = true := by simp [hz]
        have d2 : (za == 0) = false := by have := DWA.out hz; simp [this]
        have d3 : (zb == 0) = false := by have := DWB.out hz; simp [this]
        clear hz
        go_upto_region 9 with (go_at_call 23; refine (fits_any lt lm ln le _ _ _ _ _ _ _ (by first | exact SS.out | exact SA.out | exact SB.out) (by first | exact HSS.out | exact HDA.out | exact HDB.out) (by first | exact HL0.out | exact HL1.out | exact HL2.out)).mono ?_; rintro e w9 ⟨rfl, hb1⟩; (first | rw [FE.out] | rw [FEA.out] | rw [FEB.out]); replace s0 := cell_keep s0 hb1; replace s1 := cell_keep s1 hb1; replace s2 := cell_keep s2 hb1; replace qx0 := cell_keep qx0 hb1; replace qx1 := cell_keep qx1 hb1; replace l0 := cell_keep l0 hb1; replace l1 := cell_keep l1 hb1; replace l2 := cell_keep l2 hb1; replace l3 := cell_keep l3 hb1; replace a0 := cell_keep a0 hb1; replace a1 := cell_keep a1 hb1; replace a2 := cell_keep a2 hb1; replace b0 := cell_keep b0 hb1; replace b1 := cell_keep b1 hb1; replace b2 := cell_keep b2 hb1; replace SS := Lib.hid (SS.out.below hb1); replace SA := Lib.hid (SA.out.below hb1); replace SB := Lib.hid (SB.out.below hb1); replace BB := Lib.hid (below_step BB.out hb1); clear hb1)
        obtain ⟨wl, hwl⟩ : ∃ r, r = w9 := ⟨_, rfl⟩
        subst hwl
        go_wp2
        go_loopw [12, 13] (fun v i wr => ∃ (k t : Nat), k ≤ ns ∧ i = .int .i64 k ∧ v = .int .i64 t ∧ Hid (t = 0 ∧ (q1, q2) ∈ keyD (s.take k) ∨ t = 1 ∧ ¬ (q1, q2) ∈ keyD (s.take k)) ∧ Hid (Below wl.heap.size wl wr)) (fun _ i _ => ns - (intOf i).toNat)
        case atStart => exact ⟨0, 1, Nat.zero_le _, rfl, rfl, Lib.hid (.inr ⟨rfl, by simp⟩), Lib.hid (Below.refl _ _)⟩
        case round =>
          obtain ⟨k, t, hk, rfl, rfl, HT, HBW⟩ := hrel
          replace s0 := cell_keep s0 HBW.out
          replace s1 := cell_keep s1 HBW.out
          replace s2 := cell_keep s2 HBW.out
          replace qx0 := cell_keep qx0 HBW.out
          replace qx1 := cell_keep qx1 HBW.out
          replace l0 := cell_keep l0 HBW.out
          replace l1 := cell_keep l1 HBW.out
          replace l2 := cell_keep l2 HBW.out
          replace l3 := cell_keep l3 HBW.out
          replace a0 := cell_keep a0 HBW.out
          replace a1 := cell_keep a1 HBW.out
          replace a2 := cell_keep a2 HBW.out
          replace b0 := cell_keep b0 HBW.out
          replace b1 := cell_keep b1 HBW.out
          replace b2 := cell_keep b2 HBW.out
          replace SS := Lib.hid (SS.out.below HBW.out)
          replace SA := Lib.hid (SA.out.below HBW.out)
          replace SB := Lib.hid (SB.out.below HBW.out)
          replace BB := Lib.hid (below_step BB.out HBW.out)
          by_cases hlt : k < ns
          · have hkl : k < s.length := by rw [HNS.out]; exact hlt
            obtain ⟨bs, os, rfl, -, k0, k1, -⟩ := SS.out.at k hkl
            have htk := keyD_takeU hkl
            obtain ⟨y, hy⟩ : ∃ y, y = s.getD k zD := ⟨_, rfl⟩
            rw [← hy] at k0 k1 htk
            obtain ⟨⟨y1, y2⟩, z⟩ := y
            simp only at k0 k1 htk
            have heq := eq_ndU y1 y2 q1 q2
            obtain ⟨o, ho⟩ : ∃ o, decide ((y1, y2) = (q1, q2)) = o := ⟨_, rfl⟩
            rw [ho] at heq
            have HEQ := Lib.hid heq; have HTK := Lib.hid htk; have HO := Lib.hid ho; have HLT := Lib.hid hlt
            clear hy heq htk ho
            have hkb : (k : Int) < (ns : Int) := by omega
            go_upto_region 13 with fail
            refine rol_run (by kernel_rfl) [[], [0], [], [0, 1, 2], [0, 1, 2, 3], [0, 1, 2, 3, 4], [], [0, 1, 2, 3, 4, 5, 6]] (by kernel_rfl) [64, 65, 66, 67, 68, 69, 70, 71] [[], [0], [], [1, 2], [3], [4], [], [5, 6]] [0, 0, 0, 0, 0, 0, 0, 0] [0, 0, 0, 0, 0, 0, 0, 0] [1000, 1000, 1000, 1000, 1000, 1000, 1000, 1000] [.val 64 (.pointer (some ⟨gs, 2, none⟩)), .val 65 (.slice (some ⟨bs, os, none⟩) ns cS), .val 66 (.int .i64 (k : Int)), .val 67 (.pointer (some ⟨bs, os + k * 3, none⟩)), .val 68 (.pointer (some ⟨bs, os + k * 3, none⟩)), .val 69 (.agg #[.string (mkB y1), .string (mkB y2)]), .val 70 (.agg #[.string (mkB q1), .string (mkB q2)]), .val 71 (.bool o)] (by kernel_rfl) ?_ (wr.heap.size) (wr.heap.size) rfl (Below.refl _ _) rfl (fun _ => 0) ?_ ?_ ?_
            · intro j hj
              have hj3 : j < 8 := hj
              have hj2 : j = 0 ∨ j = 1 ∨ j = 2 ∨ j = 3 ∨ j = 4 ∨ j = 5 ∨ j = 6 ∨ j = 7 := by omega
              clear hj hj3
              rcases hj2 with rfl | rfl | rfl | rfl | rfl | rfl | rfl | rfl
              · exact trivial
              · exact trivial
              · exact trivial
              · exact trivial
              · exact trivial
              · exact trivial
              · exact trivial
              · exact trivial
            · intro j hj0 hj
              exact absurd hj (Nat.not_lt.2 hj0)
            · intro i hi a wx who hG hF
              have hz : a.tmps.size = 119 := hG.size
              have hi3 : i < 8 := hi
              have hi2 : i = 0 ∨ i = 1 ∨ i = 2 ∨ i = 3 ∨ i = 4 ∨ i = 5 ∨ i = 6 ∨ i = 7 := by omega
              clear hi hi3
              rcases hi2 with rfl | rfl | rfl | rfl | rfl | rfl | rfl | rfl
              · exact rol_val rfl rfl rfl (by rw [hz]; decide) (ex_field rfl (eval_slot ((hG.slots 3 (by decide)).trans rfl)) (by go_simp)) hG.below
              · exact rol_val rfl rfl rfl (by rw [hz]; decide) (ex_load rfl (eval_slot (hF 0 (by decide))) (ld_dfs (cell_keep s2 hG.below))) hG.below
              · exact rol_val rfl rfl rfl (by rw [hz]; decide) (ex_move (Or.inl rfl) (eval_slot ((hG.slots 13 (by decide)).trans rfl))) hG.below
              · exact rol_val rfl rfl rfl (by rw [hz]; decide) (ex_index rfl (eval_slot (hF 1 (by decide))) (eval_slot (hF 2 (by decide))) (idx_df HLT.out)) hG.below
              · exact rol_val rfl rfl rfl (by rw [hz]; decide) (ex_field rfl (eval_slot (hF 3 (by decide))) (by go_simp)) hG.below
              · exact rol_val rfl rfl rfl (by rw [hz]; decide) (ex_load rfl (eval_slot (hF 4 (by decide))) (ld_node (cell_keep k0 hG.below) (cell_keep k1 hG.below))) hG.below
              · exact rol_val rfl rfl rfl (by rw [hz]; decide) (ex_load rfl (eval_slot ((hG.slots 4 (by decide)).trans rfl)) (ld_node (cell_keep qx0 hG.below) (cell_keep qx1 hG.below))) hG.below
              · exact rol_val rfl rfl rfl (by rw [hz]; decide) (ex_bin rfl (eval_slot (hF 5 (by decide))) (eval_slot (hF 6 (by decide))) (guard_ndU _ _ _ _ _ _) (HEQ.out wx)) hG.below
            · intro a wx who hG hF
              have fv71 : a.tmps.getD 71 undef = .bool o := eval_slot (s := 71) (hF 7 (of_decide_eq_true (by kernel_rfl)) (of_decide_eq_true (by kernel_rfl)))
              have hbx := hG.below
              have hnx := hG.new
              rw [hG.frame]
              simp only [List.foldl_cons, List.foldl_nil, List.setIfInBounds_toArray, List.set_cons_zero, List.set_cons_succ]
              generalize a.tmps.getD 64 undef = u64
              generalize a.tmps.getD 65 undef = u65
              generalize a.tmps.getD 66 undef = u66
              generalize a.tmps.getD 67 undef = u67
              generalize a.tmps.getD 68 undef = u68
              generalize a.tmps.getD 69 undef = u69
              generalize a.tmps.getD 70 undef = u70
              rw [fv71]
              clear hF hG fv71
              have HBN := Lib.hid (below_step HBW.out hbx)
              clear hbx hnx
              cases o
              · have HT2 : Hid (t = 0 ∧ (q1, q2) ∈ keyD (s.take (k + 1)) ∨ t = 1 ∧ ¬ (q1, q2) ∈ keyD (s.take (k + 1))) := Lib.hid (by
                  have h9 : ¬ (q1, q2) = (y1, y2) := fun q => of_decide_eq_false HO.out q.symm
                  rw [HTK.out, List.mem_append, List.mem_singleton]
                  rcases HT.out with ⟨h7, h8⟩ | ⟨h7, h8⟩
                  · exact .inl ⟨h7, .inl h8⟩
                  · exact .inr ⟨h7, fun q => q.elim h8 h9⟩)
                go_wp2
                go_roundw
                case rel => exact ⟨k + 1, t, by omega, by go_num, rfl, HT2, HBN⟩
                case measure => simp [intOf]; omega
              · have HT2 : Hid ((0 : Nat) = 0 ∧ (q1, q2) ∈ keyD (s.take (k + 1)) ∨ (0 : Nat) = 1 ∧ ¬ (q1, q2) ∈ keyD (s.take (k + 1))) := Lib.hid (.inl ⟨rfl, by rw [HTK.out, ← of_decide_eq_true HO.out]; exact List.mem_append_right _ (List.mem_singleton.2 rfl)⟩)
                go_wp2
                go_roundw
                case rel => exact ⟨k + 1, 0, by omega, by go_num, rfl, HT2, HBN⟩
                case measure => simp [intOf]; omega
          · have e9 : k = ns := by omega
            subst e9
            have ht := HT.out
            rw [List.take_of_length_le (by rw [HNS.out]; exact Nat.le_refl _)] at ht
            have htm : mo = t := by
              rw [← HMO.out]
              rcases ht with ⟨h7, h8⟩ | ⟨h7, h8⟩
              · rw [if_pos h8, h7]
              · rw [if_neg h8, h7]
            subst htm
            clear ht
            have w1' := W1.out
            have w2' := W2.out
            have w3' := W3.out
            have w4' : IntKind.i64.wrap ((k : Int) + (mo : Int)) = (na : Int) := by rw [HNAE.out]; push_cast; exact IntWalk.i64_in _ (by omega)
            go_wp2_with (go_at_call 20; refine (rawake_any _).mono ?_; rintro e w9 ⟨rfl, hb1⟩; replace s0 := cell_keep s0 hb1; replace s1 := cell_keep s1 hb1; replace s2 := cell_keep s2 hb1; replace qx0 := cell_keep qx0 hb1; replace qx1 := cell_keep qx1 hb1; replace l0 := cell_keep l0 hb1; replace l1 := cell_keep l1 hb1; replace l2 := cell_keep l2 hb1; replace l3 := cell_keep l3 hb1; replace a0 := cell_keep a0 hb1; replace a1 := cell_keep a1 hb1; replace a2 := cell_keep a2 hb1; replace b0 := cell_keep b0 hb1; replace b1 := cell_keep b1 hb1; replace b2 := cell_keep b2 hb1; replace SS := Lib.hid (SS.out.below hb1); replace SA := Lib.hid (SA.out.below hb1); replace SB := Lib.hid (SB.out.below hb1); replace BB := Lib.hid (below_step BB.out hb1); clear hb1)
            go_ret
            exact ⟨rfl, BB.out⟩

theorem own : ownKnob Tryz.prog.godebug = none := by kernel_rfl
theorem laidOut : laidOutB Tryz.prog = true := by kernel_rfl

set_option maxRecDepth 100000 in
theorem lifted (os : Os) (started : os.Started) (H : Type) (enc : TypeId × Value → H) :
    ReturnsInHanded {} Tryz.checked os 9 .any (Rows.roomMoreSpec.pre6 enc Tryz.prog Tryz.f9 Rows.roomMoreRow.domain false) (Rows.roomMoreSpec.post enc Tryz.prog Tryz.f9 false true false false) := by
  refine returnsInHanded_of_change (C := Tryz.checked) own started (by kernel_rfl) Tryz.func9
    (ChangeSpec.witness6 (enc := enc) (C := Tryz.checked) false ⟨#[], #[.agg #[.int .i64 0, .int .i64 0, .slice none 0 0], .agg #[.string ByteArray.empty, .string ByteArray.empty], .agg #[.int .i64 0, .int .i64 0, .int .i64 0, .int .i64 0]], []⟩ 8 (by kernel_rfl) (by kernel_rfl) (by kernel_rfl) (by kernel_rfl)) ?_
  intro W base args ds gs before hval0 hW hcnd _
  have hval : ∀ (j : Nat) t v, Tryz.f9.params[j]? = some t → args[j]? = some v → Value.okWide Tryz.prog W .any base t v := hval0
  have hW' := hW
  obtain ⟨p, q, hA0, hV, rfl, hfz, hnd⟩ := hW
  have hA : DataW.TrodAll enc Tryz.prog W 0 (fun _ => true) true Tryz.f9.params.toList args.toList ds p := hA0
  rw [Tryz.params9] at hA hval
  obtain ⟨v0, vs0, d0, ds0, p0, q0, hargs, rfl, rfl, h0, r0⟩ := trodAll_cons hA
  obtain ⟨v1, vs1, d1, ds1, p1, q1, rfl, rfl, rfl, h1, r1⟩ := trodAll_cons r0
  obtain ⟨v2, vs2, d2, ds2, p2, q2, rfl, rfl, rfl, h2, r2⟩ := trodAll_cons r1
  obtain ⟨rfl, rfl, rfl⟩ := trodAll_nil r2
  obtain rfl : args = #[v0, v1, v2] := by cases args; simp_all
  obtain ⟨rfl, rfl⟩ := trodVars_none hV
  have k0 := h0
  have lt0 : ∀ x ∈ p0, x.block < W.heap.size := by obtain ⟨m, hm⟩ := k0; exact DataW.trod_lt m _ _ _ hm
  obtain ⟨z0, w0⟩ := use_open (hval 0 24 v0 rfl rfl) h0
  have k1 := h1
  have lt1 : ∀ x ∈ p1, x.block < W.heap.size := by obtain ⟨m, hm⟩ := k1; exact DataW.trod_lt m _ _ _ hm
  obtain ⟨z1, w1⟩ := node_open (hval 1 26 v1 rfl rfl) h1
  have k2 := h2
  have lt2 : ∀ x ∈ p2, x.block < W.heap.size := by obtain ⟨m, hm⟩ := k2; exact DataW.trod_lt m _ _ _ hm
  obtain ⟨z2, w2⟩ := lim_open (hval 2 43 v2 rfl rfl) h2
  clear hA0 hval0
  refine (walk _ z0 _ z1 _ z2 W w0 w1 w2).mono fun e W' ⟨he, bel⟩ => ?_
  subst he
  exact ⟨_, rfl, _, _, _, [], _, [], hW', trodAll_mk1 (shut_bool Tryz.underlying4 _), (trodAll_cons_mk (Below.trod laidOut (by kernel_rfl) (of_decide_eq_true (by kernel_rfl)) k0 bel lt0) (trodAll_cons_mk (Below.trod laidOut (by kernel_rfl) (of_decide_eq_true (by kernel_rfl)) k1 bel lt1) (trodAll_cons_mk (Below.trod laidOut (by kernel_rfl) (of_decide_eq_true (by kernel_rfl)) k2 bel lt2) trodAll_mk0))), rfl, bel.frame _, fun h => by cases h⟩

-- the given statement
theorem proved : Rows.RoomMoreSaid :=
  OpenClaim.holds_of_wide 9 Tryz.f9 rfl rfl rfl rfl rfl rfl rfl ⟨rfl, rfl, rfl, rfl, rfl⟩ rfl rfl rfl rfl rfl (by kernel_rfl) Tryz.func9 (by kernel_rfl)
    (of_decide_eq_true (by kernel_rfl)) (by unfold Func.isWrapper; first | (rw [if_pos (by decide +kernel)]; kernel_rfl) | (rw [if_neg (by decide +kernel)]; exact ⟨rfl, rfl⟩))
    (fun os started H enc _ => lifted os started H enc)
end Go.Proofs.YtglhjdbnpdoinaaGreat.roomMore
