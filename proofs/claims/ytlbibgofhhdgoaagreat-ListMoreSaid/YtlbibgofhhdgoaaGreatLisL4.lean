/- Of every rows and every node (no more, and no longer, than are looked at): the build list of one node more is above, by one change at the most, and has the best one; no condition. -/
import Derived.Test.YtlbibgofhhdgoaaGreatRows
import Derived.Test.YtlbibgofhhdgoaaGreatLisS
import Derived.Test.YtlbibgofhhdgoaaGreatLisN
import Derived.Test.YtlbibgofhhdgoaaGreatTalS
import Derived.ProofKit
import Derived.OpenShut
import Derived.ShutString
import Derived.ChangeOld
namespace Go.Proofs.YtlbibgofhhdgoaaGreat.listMore
open Go.ChangeShapes Go.WideShapes Go.ChangeAt Go.RowKit
open Go.ChangeMaps (open_string shut_string)
set_option maxRecDepth 100000
set_option linter.unusedVariables false

set_option maxRecDepth 100000 in
set_option maxHeartbeats 3200000 in
theorem walk (V : Value) (l0 : List Rw) (Q : Value) (q : Nd) (w : World) (hV : Rws w V l0 ∧ fitsR l0) (hQ : Q = .agg #[.string (mkB q.1), .string (mkB q.2)] ∧ fitsN q) :
    Calls Tryz.prog 6 #[V, Q] w fun e w' => e = .returned (.bool true) ∧ Below w.heap.size w w' := by
  obtain ⟨hV, fV⟩ := hV
  obtain ⟨A, c, rfl, -⟩ := hV.ex
  have hfw := fun V w h => few16_any V l0 w h fV
  have hz := SzR.few l0
  obtain ⟨m0, hm0⟩ : ∃ r, l0.length = r := ⟨_, rfl⟩
  rw [hm0] at hV ⊢
  obtain ⟨l, hl⟩ : ∃ r, fewR l0 = r := ⟨_, rfl⟩
  rw [hl] at hfw hz
  obtain ⟨n, hn⟩ : ∃ r, l.length = r := ⟨_, rfl⟩
  have SV := Lib.hid hV; have HFW := Lib.hid hfw; have HZ := Lib.hid hz; have HN := Lib.hid hn
  clear hV fV hfw hz hm0 hl hn
  obtain ⟨rfl, fq⟩ := hQ
  obtain ⟨pq, vq⟩ := q
  simp only at fq ⊢
  have hsq := oneN_small (pq, vq)
  have hoq := fun w => one_any pq vq w fq.1 fq.2
  obtain ⟨q1, hq1⟩ : ∃ r, fewL pq = r := ⟨_, rfl⟩
  obtain ⟨q2, hq2⟩ : ∃ r, fewL vq = r := ⟨_, rfl⟩
  have hsq2 : smallN (q1, q2) := by rw [← hq1, ← hq2]; exact hsq
  rw [hq1, hq2] at hoq
  obtain ⟨W, gq, hW, hg, r1, hb⟩ := boxT w (.string (mkB pq)) (.string (mkB vq)) 55
  have HSQ := Lib.hid hsq2; have HOQ := Lib.hid hoq; have HLQ := Lib.hid (show w.heap.size ≤ gq by omega); have HW := Lib.hid hW; have HG := Lib.hid hg; have RQ := Lib.hid r1; have BB := Lib.hid hb
  clear hsq hsq2 hoq hq1 hq2 hW hg r1 hb fq
  have e1 : ∀ args w, (callFunc 8 args).run Tryz.prog w = .ok (.enter 8 args) w := enters_of Tryz.func8 (by kernel_rfl) rfl
  have e2 : ∀ args w, (callFunc 29 args).run Tryz.prog w = .ok (.enter 29 args) w := enters_of Tryz.func29 (by kernel_rfl) rfl
  go_enter Tryz.func6, Tryz.ntmps6
  go_upto_region 1 with fail
  rw [HW.out, HG.out]
  refine rol_run (by kernel_rfl) [[], [0], [], [0, 1, 2], [0, 1, 2, 3], [0, 1, 2, 3, 4]] (by kernel_rfl) [19, 20, 21, 22, 0] [[7], [0], [6], [2], [1], [3, 6]] [0, 1, 0, 0, 1, 4, 4, 0] [0, 0, 0, 0, 0, 4] [1000, 1000, 1000, 1000, 1000, 1000, 5, 4] [.val 19 (.slice A m0 c), .mems 20 (rwsG W.heap.size l), .val 21 (.agg #[.string (mkB pq), .string (mkB vq)]), .val 22 (.agg #[.string (mkB q1), .string (mkB q2)]), .mems 0 (rwsG W.heap.size l), .box (gq) (.cells #[.string (mkB q1), .string (mkB q2)] 55), .box (gq) (.cells #[.string (mkB pq), .string (mkB vq)] 55), .val 0 (.slice A m0 c)] (by kernel_rfl) ?_ (w.heap.size) (W.heap.size) rfl BB.out rfl (fun k => if k = gq then 4 else 6) ?_ ?_ ?_
  · intro j hj
    have hj3 : j < 8 := hj
    have hj2 : j = 0 ∨ j = 1 ∨ j = 2 ∨ j = 3 ∨ j = 4 ∨ j = 5 ∨ j = 6 ∨ j = 7 := by omega
    clear hj hj3
    rcases hj2 with rfl | rfl | rfl | rfl | rfl | rfl | rfl | rfl
    · exact trivial
    · exact rwsG_near
    · exact trivial
    · exact trivial
    · exact rwsG_near
    · exact trivial
    · exact trivial
    · exact trivial
  · intro j hj0 hj
    have hj1 : 6 ≤ j := hj0
    have hj3 : j < 8 := hj
    have hj2 : j = 6 ∨ j = 7 := by omega
    clear hj0 hj hj1 hj3
    rcases hj2 with rfl | rfl
    · exact ⟨RQ.out, if_pos rfl⟩
    · exact rfl
  · intro i hi a wx who hG hF
    have hz : a.tmps.size = 118 := hG.size
    have hi3 : i < 6 := hi
    have hi2 : i = 0 ∨ i = 1 ∨ i = 2 ∨ i = 3 ∨ i = 4 ∨ i = 5 := by omega
    clear hi hi3
    rcases hi2 with rfl | rfl | rfl | rfl | rfl | rfl
    · exact rol_val rfl rfl rfl (by rw [hz]; decide) (ex_move (Or.inl rfl) (eval_slot (hF 7 (by decide)))) hG.below
    · refine rol_calls rfl rfl rfl (by rw [hz]; decide) (ex_call rfl (by simp [eval_slot (hF 0 (by decide))]) e1) (HFW.out _ wx (SV.out.below hG.below)) ?_ hG.below (Nat.le_trans BB.out.size hG.new)
      rintro e w1 ⟨u, rfl, hso, hb1⟩
      obtain ⟨bs, hbs, hg⟩ := hso.toG hG.new
      exact ⟨u, rfl, hb1, .inr (.inr ⟨_, bs, rfl, hbs, hg⟩)⟩
    · exact rol_val rfl rfl rfl (by rw [hz]; decide) (ex_load rfl (eval_slot ((hG.slots 3 (by decide)).trans rfl)) (ld_node (row2 (hF 6 (by decide)).1).1 (row2 (hF 6 (by decide)).1).2.1)) hG.below
    · refine rol_calls rfl rfl rfl (by rw [hz]; decide) (ex_call rfl (by simp [eval_slot (hF 2 (by decide))]) e2) (HOQ.out wx) ?_ hG.below (Nat.le_trans BB.out.size hG.new)
      rintro e w1 ⟨rfl, hb1⟩
      exact ⟨_, rfl, hb1, .inl rfl⟩
    · exact rol_moves rfl rfl rfl (by rw [hz]; decide) (Or.inr rfl) (hF 1 (by decide)) hG.below
    · exact rol_box_ndT rfl rfl rfl rfl (eval_slot ((hG.slots 3 (by decide)).trans rfl)) (eval_slot (hF 3 (by decide))) (hF 6 (by decide)) hG.below HLQ.out
  · intro a wx who hG hF
    obtain ⟨v0, bs0, fv0, fo0, fp0⟩ := hF 4 (of_decide_eq_true (by kernel_rfl)) (of_decide_eq_true (by kernel_rfl))
    replace fv0 : a.tmps.getD 0 undef = v0 := eval_slot (s := 0) fv0
    have hbq := hF 5 (of_decide_eq_true (by kernel_rfl)) (of_decide_eq_true (by kernel_rfl))
    have hbx := hG.below
    have hnx := hG.new
    rw [hG.frame]
    simp only [List.foldl_cons, List.foldl_nil, List.setIfInBounds_toArray, List.set_cons_zero, List.set_cons_succ]
    generalize a.tmps.getD 19 undef = u19
    generalize a.tmps.getD 20 undef = u20
    generalize a.tmps.getD 21 undef = u21
    generalize a.tmps.getD 22 undef = u22
    rw [fv0]
    clear hF hG fv0
    obtain ⟨aL, cL, rfl, hd⟩ := fp0.own.slice HN.out
    obtain ⟨qx0, qx1, -, -⟩ := row2 hbq.1
    have SL := Lib.hid hd
    replace BB := Lib.hid hbx
    clear fo0 fp0 hbq hd hbx hnx SV RQ HFW HOQ HW HG HLQ e1 e2
    have kadd := fun V w h => tadd_any V l q1 q2 w h (Nat.le_trans HZ.out.len (by decide)) (HZ.out.versK (by decide)) HZ.out.path HZ.out.text HSQ.out.1 HSQ.out.2
    cases ho : okR l
    · have hk := ho
      rw [addE_no (by rw [ho]; rfl)] at kadd
      simp only at kadd
      have KADD := Lib.hid kadd
      clear kadd ho hk
      go_upto_region 3 with (go_at_call 30; refine (KADD.out _ _ SL.out).mono ?_; rintro e w9 ⟨v1, rfl, hr1, hb1⟩; replace qx0 := cell_keep qx0 hb1; replace qx1 := cell_keep qx1 hb1; replace SL := Lib.hid (SL.out.below hb1); replace BB := Lib.hid (below_step BB.out hb1); obtain ⟨aA, cA, rfl, hd⟩ := hr1.slice HN.out; have SA := Lib.hid hd; clear hr1 hd hb1 KADD)
      go_wp2_with (go_at_call 18; refine (lawake_any _).mono ?_; rintro e w9 ⟨rfl, hb1⟩; replace qx0 := cell_keep qx0 hb1; replace qx1 := cell_keep qx1 hb1; replace SL := Lib.hid (SL.out.below hb1); replace SA := Lib.hid (SA.out.below hb1); replace BB := Lib.hid (below_step BB.out hb1); clear hb1)
      go_ret
      exact ⟨rfl, BB.out⟩
    · cases hk : okN (q1, q2)
      · rw [addE_no (by rw [ho, hk]; rfl)] at kadd
        simp only at kadd
        have KADD := Lib.hid kadd
        clear kadd ho hk
        go_upto_region 3 with (go_at_call 30; refine (KADD.out _ _ SL.out).mono ?_; rintro e w9 ⟨v1, rfl, hr1, hb1⟩; replace qx0 := cell_keep qx0 hb1; replace qx1 := cell_keep qx1 hb1; replace SL := Lib.hid (SL.out.below hb1); replace BB := Lib.hid (below_step BB.out hb1); obtain ⟨aA, cA, rfl, hd⟩ := hr1.slice HN.out; have SA := Lib.hid hd; clear hr1 hd hb1 KADD)
        go_wp2_with (go_at_call 18; refine (lawake_any _).mono ?_; rintro e w9 ⟨rfl, hb1⟩; replace qx0 := cell_keep qx0 hb1; replace qx1 := cell_keep qx1 hb1; replace SL := Lib.hid (SL.out.below hb1); replace SA := Lib.hid (SA.out.below hb1); replace BB := Lib.hid (below_step BB.out hb1); clear hb1)
        go_ret
        exact ⟨rfl, BB.out⟩
      · cases hh : hasN (rwAll l) (q1, q2)
        · have hmi := more_is ho hk
          have hws := small_with HZ.out.nds HSQ.out
          have hwl := withN_len1 (rwAll l) (q1, q2)
          have hsl : (rwAll l).length ≤ 144 := HZ.out.many
          have hzl : SzR 145 (rwOf (withN (rwAll l) (q1, q2))) := SzR.of hws (by omega)
          have hla := of_ok (withN_check (all_check ho) hk)
          rw [addE_yes ho hk hh] at kadd
          obtain ⟨la, hla2⟩ : ∃ r, rwOf (withN (rwAll l) (q1, q2)) = r := ⟨_, rfl⟩
          rw [hla2] at hmi hzl kadd hla
          clear hla2 hws hwl hsl hh hk
          simp only at kadd hmi
          have kbe := fun V w h => tbest_any V la q1 w h (Nat.le_trans hzl.len (by decide)) hzl.path hzl.text HSQ.out.1
          rw [hmi.best] at kbe
          have kba := fun V w h => lbuild_any V l w h (Nat.le_trans HZ.out.len (by decide)) (HZ.out.versK (by decide)) HZ.out.path HZ.out.text
          rw [buildE_yes ho] at kba
          have kbb := fun V w h => lbuild_any V la w h (Nat.le_trans hzl.len (by decide)) (hzl.versK (by decide)) hzl.path hzl.text
          rw [buildE_yes hla] at kbb
          have sx := build_small HZ.out
          have sy := build_small hzl
          have lx : (buildL l).length ≤ 100000 := by rw [build_len]; exact Nat.le_trans HZ.out.len (by decide)
          have ly : (buildL la).length ≤ 100000 := by rw [build_len]; exact Nat.le_trans hzl.len (by decide)
          have kab := fun U V w h h' => labove_any U V (buildL l) (buildL la) w h h' sx sy lx ly
          rw [hmi.above] at kab
          have kde := fun U V w h h' => ldelta_any U V (buildL l) (buildL la) w h h' sx sy lx ly
          rw [hmi.delta] at kde
          have kpi := fun V w h => lpick_any V (buildL la) q1 w h sy HSQ.out.1
          rw [hmi.pick] at kpi
          have klc := fun V w h => lcheck_any V (buildL la) w h sy
          rw [hmi.chk] at klc
          have hmany := hmi.many
          have hbl := build_len la
          obtain ⟨nA, hnA⟩ : ∃ r, la.length = r := ⟨_, rfl⟩
          rw [hnA] at hbl
          obtain ⟨bx, hbx⟩ : ∃ r, buildL l = r := ⟨_, rfl⟩
          obtain ⟨yy, hyy⟩ : ∃ r, buildL la = r := ⟨_, rfl⟩
          rw [hbx] at kba kab kde hmany
          rw [hyy] at kbb kab kde kpi klc hmany hbl
          obtain ⟨dl, hdl⟩ : ∃ r, (deltaE bx yy).1 = r := ⟨_, rfl⟩
          rw [hdl] at kde hmany
          obtain ⟨bi, hbi⟩ : ∃ r, lastV (rwVer la q1) = r := ⟨_, rfl⟩
          rw [hbi] at kbe kpi
          obtain ⟨nx, hnx⟩ : ∃ r, bx.length = r := ⟨_, rfl⟩
          obtain ⟨nd, hnd⟩ : ∃ r, dl.length = r := ⟨_, rfl⟩
          rw [hnd] at hmany
          simp only at kadd kba kbb kab kde kpi kbe klc
          have q1b := mk_beq bi bi
          rw [show decide (bi = bi) = true from decide_eq_true rfl] at q1b
          have KADD := Lib.hid kadd; have KBA := Lib.hid kba; have KBB := Lib.hid kbb; have KAB := Lib.hid kab; have KDE := Lib.hid kde; have KPI := Lib.hid kpi; have KBE := Lib.hid kbe; have KLC := Lib.hid klc
          have HNA := Lib.hid hnA; have HNX := Lib.hid hnx; have HND := Lib.hid hnd; have HNAY := Lib.hid hbl
          clear kadd kba kbb kab kde kpi kbe klc hnA hnx hnd hbl hbx hyy hdl hbi sx sy lx ly hmi hla hzl ho
          go_upto_region 3 with (go_at_call 30; refine (KADD.out _ _ SL.out).mono ?_; rintro e w9 ⟨v1, rfl, hr1, hb1⟩; replace qx0 := cell_keep qx0 hb1; replace qx1 := cell_keep qx1 hb1; replace SL := Lib.hid (SL.out.below hb1); replace BB := Lib.hid (below_step BB.out hb1); obtain ⟨aA, cA, rfl, hd⟩ := hr1.slice HNA.out; have SA := Lib.hid hd; clear hr1 hd hb1 KADD)
          go_upto_region 6 with (go_at_call 10; refine (KBA.out _ _ SL.out).mono ?_; rintro e w9 ⟨v1, rfl, hr1, hb1⟩; replace qx0 := cell_keep qx0 hb1; replace qx1 := cell_keep qx1 hb1; replace SL := Lib.hid (SL.out.below hb1); replace SA := Lib.hid (SA.out.below hb1); replace BB := Lib.hid (below_step BB.out hb1); obtain ⟨ax, cx, rfl, hd⟩ := ndsO hr1; rw [HNX.out] at hd ⊢; have Sx := Lib.hid hd; clear hr1 hd hb1 KBA)
          go_upto_region 7 with (go_at_call 10; refine (KBB.out _ _ SA.out).mono ?_; rintro e w9 ⟨v1, rfl, hr1, hb1⟩; replace qx0 := cell_keep qx0 hb1; replace qx1 := cell_keep qx1 hb1; replace SL := Lib.hid (SL.out.below hb1); replace SA := Lib.hid (SA.out.below hb1); replace Sx := Lib.hid (Sx.out.below hb1); replace BB := Lib.hid (below_step BB.out hb1); obtain ⟨ay, cy, rfl, hd⟩ := ndsO hr1; rw [HNAY.out] at hd ⊢; have Sy := Lib.hid hd; clear hr1 hd hb1 KBB)
          go_upto_region 8 with (go_at_call 27; refine (KAB.out _ _ _ Sx.out Sy.out).mono ?_; rintro e w9 ⟨rfl, hb1⟩; replace qx0 := cell_keep qx0 hb1; replace qx1 := cell_keep qx1 hb1; replace SL := Lib.hid (SL.out.below hb1); replace SA := Lib.hid (SA.out.below hb1); replace Sx := Lib.hid (Sx.out.below hb1); replace Sy := Lib.hid (Sy.out.below hb1); replace BB := Lib.hid (below_step BB.out hb1); clear hb1)
          go_upto_region 9 with (go_at_call 21; refine (KDE.out _ _ _ Sx.out Sy.out).mono ?_; rintro e w9 ⟨v1, rfl, hr1, hb1⟩; replace qx0 := cell_keep qx0 hb1; replace qx1 := cell_keep qx1 hb1; replace SL := Lib.hid (SL.out.below hb1); replace SA := Lib.hid (SA.out.below hb1); replace Sx := Lib.hid (Sx.out.below hb1); replace Sy := Lib.hid (Sy.out.below hb1); replace BB := Lib.hid (below_step BB.out hb1); obtain ⟨ad, cd, rfl, hd⟩ := chsO hr1; rw [HND.out] at hd ⊢; have Sd := Lib.hid hd; clear hr1 hd hb1 KDE)
          go_upto_region 10 with (go_at_call 11; refine (KPI.out _ _ Sy.out).mono ?_; rintro e w9 ⟨rfl, hb1⟩; replace qx0 := cell_keep qx0 hb1; replace qx1 := cell_keep qx1 hb1; replace SL := Lib.hid (SL.out.below hb1); replace SA := Lib.hid (SA.out.below hb1); replace Sx := Lib.hid (Sx.out.below hb1); replace Sy := Lib.hid (Sy.out.below hb1); replace Sd := Lib.hid (Sd.out.below hb1); replace BB := Lib.hid (below_step BB.out hb1); clear hb1)
          go_upto_region 11 with (go_at_call 31; refine (KBE.out _ _ SA.out).mono ?_; rintro e w9 ⟨rfl, hb1⟩; replace qx0 := cell_keep qx0 hb1; replace qx1 := cell_keep qx1 hb1; replace SL := Lib.hid (SL.out.below hb1); replace SA := Lib.hid (SA.out.below hb1); replace Sx := Lib.hid (Sx.out.below hb1); replace Sy := Lib.hid (Sy.out.below hb1); replace Sd := Lib.hid (Sd.out.below hb1); replace BB := Lib.hid (below_step BB.out hb1); clear hb1)
          obtain rfl | rfl : nd = 0 ∨ nd = 1 := by omega
          · go_wp2_with (first
                | (go_at_call 12; refine (KLC.out _ _ Sy.out).mono ?_; rintro e w9 ⟨rfl, hb1⟩; replace qx0 := cell_keep qx0 hb1; replace qx1 := cell_keep qx1 hb1; replace SL := Lib.hid (SL.out.below hb1); replace SA := Lib.hid (SA.out.below hb1); replace Sx := Lib.hid (Sx.out.below hb1); replace Sy := Lib.hid (Sy.out.below hb1); replace Sd := Lib.hid (Sd.out.below hb1); replace BB := Lib.hid (below_step BB.out hb1); clear hb1)
                | (go_at_call 18; refine (lawake_any _).mono ?_; rintro e w9 ⟨rfl, hb1⟩; replace qx0 := cell_keep qx0 hb1; replace qx1 := cell_keep qx1 hb1; replace SL := Lib.hid (SL.out.below hb1); replace SA := Lib.hid (SA.out.below hb1); replace Sx := Lib.hid (Sx.out.below hb1); replace Sy := Lib.hid (Sy.out.below hb1); replace Sd := Lib.hid (Sd.out.below hb1); replace BB := Lib.hid (below_step BB.out hb1); clear hb1))
            go_ret
            exact ⟨rfl, BB.out⟩
          · go_wp2_with (first
                | (go_at_call 12; refine (KLC.out _ _ Sy.out).mono ?_; rintro e w9 ⟨rfl, hb1⟩; replace qx0 := cell_keep qx0 hb1; replace qx1 := cell_keep qx1 hb1; replace SL := Lib.hid (SL.out.below hb1); replace SA := Lib.hid (SA.out.below hb1); replace Sx := Lib.hid (Sx.out.below hb1); replace Sy := Lib.hid (Sy.out.below hb1); replace Sd := Lib.hid (Sd.out.below hb1); replace BB := Lib.hid (below_step BB.out hb1); clear hb1)
                | (go_at_call 18; refine (lawake_any _).mono ?_; rintro e w9 ⟨rfl, hb1⟩; replace qx0 := cell_keep qx0 hb1; replace qx1 := cell_keep qx1 hb1; replace SL := Lib.hid (SL.out.below hb1); replace SA := Lib.hid (SA.out.below hb1); replace Sx := Lib.hid (Sx.out.below hb1); replace Sy := Lib.hid (Sy.out.below hb1); replace Sd := Lib.hid (Sd.out.below hb1); replace BB := Lib.hid (below_step BB.out hb1); clear hb1))
            go_ret
            exact ⟨rfl, BB.out⟩
        · rw [addE_has ho hk hh] at kadd
          clear hh
          simp only at kadd
          have KADD := Lib.hid kadd
          clear kadd ho hk
          go_upto_region 3 with (go_at_call 30; refine (KADD.out _ _ SL.out).mono ?_; rintro e w9 ⟨v1, rfl, hr1, hb1⟩; replace qx0 := cell_keep qx0 hb1; replace qx1 := cell_keep qx1 hb1; replace SL := Lib.hid (SL.out.below hb1); replace BB := Lib.hid (below_step BB.out hb1); obtain ⟨aA, cA, rfl, hd⟩ := hr1.slice HN.out; have SA := Lib.hid hd; clear hr1 hd hb1 KADD)
          go_wp2_with (go_at_call 18; refine (lawake_any _).mono ?_; rintro e w9 ⟨rfl, hb1⟩; replace qx0 := cell_keep qx0 hb1; replace qx1 := cell_keep qx1 hb1; replace SL := Lib.hid (SL.out.below hb1); replace SA := Lib.hid (SA.out.below hb1); replace BB := Lib.hid (below_step BB.out hb1); clear hb1)
          go_ret
          exact ⟨rfl, BB.out⟩

theorem own : ownKnob Tryz.prog.godebug = none := by kernel_rfl
theorem laidOut : laidOutB Tryz.prog = true := by kernel_rfl

set_option maxRecDepth 100000 in
theorem lifted (os : Os) (started : os.Started) (H : Type) (enc : TypeId × Value → H) :
    ReturnsInHanded {} Tryz.checked os 6 .any (Rows.listMoreSpec.pre6 enc Tryz.prog Tryz.f6 Rows.listMoreRow.domain false) (Rows.listMoreSpec.post enc Tryz.prog Tryz.f6 false true false false) := by
  refine returnsInHanded_of_change (C := Tryz.checked) own started (by kernel_rfl) Tryz.func6
    (ChangeSpec.witness6 (enc := enc) (C := Tryz.checked) false ⟨#[], #[.slice none 0 0, .agg #[.string ByteArray.empty, .string ByteArray.empty]], []⟩ 8 (by kernel_rfl) (by kernel_rfl) (by kernel_rfl) (by kernel_rfl)) ?_
  intro W base args ds gs before hval0 hW hcnd _
  have hval : ∀ (j : Nat) t v, Tryz.f6.params[j]? = some t → args[j]? = some v → Value.okWide Tryz.prog W .any base t v := hval0
  have hW' := hW
  obtain ⟨p, q, hA0, hV, rfl, hfz, hnd⟩ := hW
  have hA : DataW.TrodAll enc Tryz.prog W 0 (fun _ => true) true Tryz.f6.params.toList args.toList ds p := hA0
  rw [Tryz.params6] at hA hval
  obtain ⟨v0, vs0, d0, ds0, p0, q0, hargs, rfl, rfl, h0, r0⟩ := trodAll_cons hA
  obtain ⟨v1, vs1, d1, ds1, p1, q1, rfl, rfl, rfl, h1, r1⟩ := trodAll_cons r0
  obtain ⟨rfl, rfl, rfl⟩ := trodAll_nil r1
  obtain rfl : args = #[v0, v1] := by cases args; simp_all
  obtain ⟨rfl, rfl⟩ := trodVars_none hV
  obtain ⟨a0, len0, cap0, rfl⟩ := okWide_slice Tryz.underlying23 (hval 0 23 v0 rfl rfl)
  have k0 := h0
  have lt0 : ∀ x ∈ p0, x.block < W.heap.size := by obtain ⟨m, hm⟩ := k0; exact DataW.trod_lt m _ _ _ hm
  obtain ⟨z0, w0⟩ : ∃ zs, Rws W (.slice a0 len0 cap0) zs ∧ fitsR zs := by
    obtain ⟨fuel, hf⟩ := h0
    exact rws_open (by simpa [Value.cells] using hf)
  have k1 := h1
  have lt1 : ∀ x ∈ p1, x.block < W.heap.size := by obtain ⟨m, hm⟩ := k1; exact DataW.trod_lt m _ _ _ hm
  obtain ⟨z1, w1⟩ := node_open (hval 1 55 v1 rfl rfl) h1
  clear hA0 hval0
  refine (walk _ z0 _ z1 W w0 w1).mono fun e W' ⟨he, bel⟩ => ?_
  subst he
  exact ⟨_, rfl, _, _, _, [], _, [], hW', trodAll_mk1 (shut_bool Tryz.underlying4 _), (trodAll_cons_mk (Below.trod laidOut (by kernel_rfl) (of_decide_eq_true (by kernel_rfl)) k0 bel lt0) (trodAll_cons_mk (Below.trod laidOut (by kernel_rfl) (of_decide_eq_true (by kernel_rfl)) k1 bel lt1) trodAll_mk0)), rfl, bel.frame _, fun h => by cases h⟩

-- the given statement
theorem proved : Rows.ListMoreSaid :=
  OpenClaim.holds_of_wide 6 Tryz.f6 rfl rfl rfl rfl rfl rfl rfl ⟨rfl, rfl, rfl, rfl, rfl⟩ rfl rfl rfl rfl rfl (by kernel_rfl) Tryz.func6 (by kernel_rfl)
    (of_decide_eq_true (by kernel_rfl)) (by unfold Func.isWrapper; first | (rw [if_pos (by decide +kernel)]; kernel_rfl) | (rw [if_neg (by decide +kernel)]; exact ⟨rfl, rfl⟩))
    (fun os started H enc _ => lifted os started H enc)
end Go.Proofs.YtlbibgofhhdgoaaGreat.listMore
