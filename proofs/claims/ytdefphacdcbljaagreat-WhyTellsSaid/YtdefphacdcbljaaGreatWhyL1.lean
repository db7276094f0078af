/- Of every needs and every node (no more, and no longer, than are looked at): how far all nodes are away, and the chain to the node, or why there is none, as the document says; no condition. -/
import Derived.Test.YtdefphacdcbljaaGreatRows
import Derived.Test.YtdefphacdcbljaaGreatWhyF
import Derived.Test.YtdefphacdcbljaaGreatWhyG
import Derived.Test.YtdefphacdcbljaaGreatWhyV
import Derived.Test.YtdefphacdcbljaaGreatWhyK
import Derived.ProofKit
import Derived.OpenShut
import Derived.ShutString
import Derived.ChangeOld
namespace Go.Proofs.YtdefphacdcbljaaGreat.whyTells
open Go.ChangeShapes Go.WideShapes Go.ChangeAt Go.RowKit
open Go.ChangeMaps (open_string shut_string)
set_option maxRecDepth 100000
set_option linter.unusedVariables false

theorem decNds (l : List Nd) : decide (l = l) = true := decide_eq_true rfl
theorem decDps (l : List Dp) : decide (l = l) = true := decide_eq_true rfl
set_option maxRecDepth 100000 in
set_option maxHeartbeats 3200000 in
theorem walk (D : Value) (d0 : List Ne) (Q : Value) (q : Nd) (w : World) (hD : Nes w D d0 ∧ ∀ e ∈ d0, fitNe e) (hQ : Q = .agg #[.string (mkB q.1), .string (mkB q.2)] ∧ fitsN q) :
    Calls Tryz.prog 3 #[D, Q] w fun e w' => e = .returned (.bool true) ∧ Below w.heap.size w w' := by
  obtain ⟨hD, fD⟩ := hD
  obtain ⟨AD, cD, rfl, -⟩ := hD.ex
  have kfD := fun V w h => lfewo_any V d0 w h fD
  have hml := fewK_len d0; have hmz := fewK_small d0
  obtain ⟨mD, hmD⟩ : ∃ r, d0.length = r := ⟨_, rfl⟩
  rw [hmD] at hD ⊢
  obtain ⟨d, hd⟩ : ∃ r, fewK d0 = r := ⟨_, rfl⟩
  rw [hd] at kfD hml hmz
  obtain ⟨nd, hnd⟩ : ∃ r, d.length = r := ⟨_, rfl⟩
  rw [hnd] at hml kfD
  have hsz : ∀ x ∈ d, smallNe x := hmz
  have SUD := Lib.hid hD; have KFD := Lib.hid kfD; have HZD := Lib.hid hsz; have HND := Lib.hid hnd
  clear hD fD kfD hmz hsz hmD hd hnd
  obtain ⟨rfl, fq⟩ := hQ
  obtain ⟨pq, vq⟩ := q
  simp only at fq ⊢
  have hsq := oneN_small (pq, vq)
  have hoq := fun w => one_any pq vq w fq.1 fq.2
  obtain ⟨q1, hq1⟩ : ∃ r, fewL pq = r := ⟨_, rfl⟩
  obtain ⟨q2, hq2⟩ : ∃ r, fewL vq = r := ⟨_, rfl⟩
  have hsq2 : smallN (q1, q2) := by rw [← hq1, ← hq2]; exact hsq
  rw [hq1, hq2] at hoq
  obtain ⟨W, gq, hW, hg, r1, hb⟩ := boxHK w (.string (mkB pq)) (.string (mkB vq)) 24
  have HSQ := Lib.hid hsq2; have HOQ := Lib.hid hoq; have HLQ := Lib.hid (show w.heap.size ≤ gq by omega); have HW := Lib.hid hW; have HG := Lib.hid hg; have RQ := Lib.hid r1; have BB := Lib.hid hb
  clear hsq hsq2 hoq hq1 hq2 hW hg r1 hb fq
  have kde := fun V w h => wdeptho_any V d w h HZD.out (by rw [HND.out]; omega)
  have kch := fun V w h => wchaino_any V d q1 q2 w h HZD.out (by rw [HND.out]; omega) HSQ.out
  have kma := fun V w h => refmayK_any V d w h HZD.out
  have kmn := fun w => refnmay_any q1 q2 w HSQ.out.1 HSQ.out.2
  have krd := fun (hm : mayK d = true) V w h => refdepthsW_any V d w h hm HZD.out (by rw [HND.out]; omega)
  have klv := fun (hm : mayK d = true) V w h => reflevelsW_any V d w h hm HZD.out (by rw [HND.out]; omega)
  have hll := levsW_len (l := d)
  have kdp := fun V w h => refdepthW_any V (levsW d) q1 q2 w h (by have := HND.out; omega)
  have krc := fun (hm : mayK d = true) f (hf : farW d (q1, q2) = f + 1) U V w hU hV => refchainW_any d hm (by rw [HND.out]; omega) f U V q1 q2 w hU hV hf
  have hdf := fun (hm : mayK d = true) => depIn_far hm (q1, q2)
  obtain ⟨PD, hPD⟩ : ∃ E, depWE d = E := ⟨_, rfl⟩
  obtain ⟨PC, hPC⟩ : ∃ E, chainE d (q1, q2) = E := ⟨_, rfl⟩
  rw [hPD] at kde
  rw [hPC] at kch
  obtain ⟨dd, dk⟩ := PD
  obtain ⟨cl, ck⟩ := PC
  simp only at kde kch
  obtain ⟨ndd, hndd⟩ : ∃ r, dd.length = r := ⟨_, rfl⟩
  obtain ⟨nc, hnc⟩ : ∃ r, cl.length = r := ⟨_, rfl⟩
  obtain ⟨LV, hLV⟩ : ∃ r, levsW d = r := ⟨_, rfl⟩
  rw [hLV] at klv kdp hll hdf
  simp only [hLV] at krc
  obtain ⟨nl, hnl⟩ : ∃ r, LV.length = r := ⟨_, rfl⟩
  have KDE := Lib.hid kde; have KCH := Lib.hid kch; have KMA0 := Lib.hid kma; have KMN0 := Lib.hid kmn; have KRD0 := Lib.hid krd; have KLV0 := Lib.hid klv; have KDP0 := Lib.hid kdp; have KRC0 := Lib.hid krc; have HPD := Lib.hid hPD; have HPC := Lib.hid hPC; have HNDD := Lib.hid hndd; have HNC := Lib.hid hnc; have HNL := Lib.hid hnl; have HDF := Lib.hid hdf
  clear kde kch kma kmn krd klv kdp krc hPD hPC hndd hnc hll hdf hLV hnl
  have ed : ∀ args w, (callFunc 5 args).run Tryz.prog w = .ok (.enter 5 args) w := enters_of Tryz.func5 (by kernel_rfl) rfl
  have e2 : ∀ args w, (callFunc 6 args).run Tryz.prog w = .ok (.enter 6 args) w := enters_of Tryz.func6 (by kernel_rfl) rfl
  go_enter Tryz.func3, Tryz.ntmps3
  go_upto_region 1 with fail
  rw [HW.out, HG.out]
  refine rol_run (by kernel_rfl) [[], [0], [], [0, 1, 2], [0, 1, 2, 3], [0, 1, 2, 3, 4]] (by kernel_rfl) [10, 11, 12, 13, 0] [[7], [0], [6], [2], [1], [3, 6]] [0, 1, 0, 0, 1, 4, 4, 0] [0, 0, 0, 0, 0, 4] [1000, 1000, 1000, 1000, 1000, 1000, 5, 4] [.val 10 (.slice AD mD cD), .mem 11 (rowG W.heap.size 49 4 nd (neC d)), .val 12 (.agg #[.string (mkB pq), .string (mkB vq)]), .val 13 (.agg #[.string (mkB q1), .string (mkB q2)]), .mem 0 (rowG W.heap.size 49 4 nd (neC d)), .box (gq) (.cells #[.string (mkB q1), .string (mkB q2)] 24), .box (gq) (.cells #[.string (mkB pq), .string (mkB vq)] 24), .val 0 (.slice AD mD cD)] (by kernel_rfl) ?_ (w.heap.size) (W.heap.size) rfl BB.out rfl (fun k => if k = gq then 4 else 6) ?_ ?_ ?_
  · intro j hj
    have hj3 : j < 8 := hj
    have hj2 : j = 0 ∨ j = 1 ∨ j = 2 ∨ j = 3 ∨ j = 4 ∨ j = 5 ∨ j = 6 ∨ j = 7 := by omega
    clear hj hj3
    rcases hj2 with rfl | rfl | rfl | rfl | rfl | rfl | rfl | rfl
    · exact trivial
    · exact rowG_near
    · exact trivial
    · exact trivial
    · exact rowG_near
    · exact trivial
    · exact trivial
    · exact trivial
  · intro j hj0 hj
    have hj1 : 6 ≤ j := hj0
    have hj3 : j < 8 := hj
    have hj2 : j = 6 ∨ j = 7 := by omega
    clear hj0 hj hj1 hj3
    rcases hj2 with rfl | rfl
    · exact ⟨RQ.out, if_pos rfl⟩
    · exact rfl
  · intro i hi a wx who hG hF
    have hz : a.tmps.size = 98 := hG.size
    have hi3 : i < 6 := hi
    have hi2 : i = 0 ∨ i = 1 ∨ i = 2 ∨ i = 3 ∨ i = 4 ∨ i = 5 := by omega
    clear hi hi3
    rcases hi2 with rfl | rfl | rfl | rfl | rfl | rfl
    · exact rol_val rfl rfl rfl (by rw [hz]; decide) (ex_move (Or.inl rfl) (eval_slot (hF 7 (by decide)))) hG.below
    · refine rol_calls rfl rfl rfl (by rw [hz]; decide) (ex_call rfl (by simp [eval_slot (hF 0 (by decide))]) ed) (KFD.out _ wx (SUD.out.below hG.below)) ?_ hG.below (Nat.le_trans BB.out.size hG.new)
      rintro e w1 ⟨u, rfl, hso, hb1⟩
      exact ⟨u, rfl, hb1, .inr (.inl ⟨_, u.ownBlock, rfl, fun b e => own_lt hso e, row_base hso hG.new, rfl⟩)⟩
    · exact rol_val rfl rfl rfl (by rw [hz]; decide) (ex_load rfl (eval_slot ((hG.slots 3 (by decide)).trans rfl)) (ld_node (row2 (hF 6 (by decide)).1).1 (row2 (hF 6 (by decide)).1).2.1)) hG.below
    · refine rol_calls rfl rfl rfl (by rw [hz]; decide) (ex_call rfl (by simp [eval_slot (hF 2 (by decide))]) e2) (HOQ.out wx) ?_ hG.below (Nat.le_trans BB.out.size hG.new)
      rintro e w1 ⟨rfl, hb1⟩
      exact ⟨_, rfl, hb1, .inl rfl⟩
    · exact rol_move rfl rfl rfl (by rw [hz]; decide) (Or.inr rfl) (hF 1 (by decide)) hG.below
    · exact rol_box_ndK rfl rfl rfl rfl (eval_slot ((hG.slots 3 (by decide)).trans rfl)) (eval_slot (hF 3 (by decide))) (hF 6 (by decide)) hG.below HLQ.out
  · intro a wx who hG hF
    obtain ⟨v0, ob0, fv0, fo0, fp0⟩ := hF 4 (of_decide_eq_true (by kernel_rfl)) (of_decide_eq_true (by kernel_rfl))
    replace fv0 : a.tmps.getD 0 undef = v0 := eval_slot (s := 0) fv0
    have hbq := hF 5 (of_decide_eq_true (by kernel_rfl)) (of_decide_eq_true (by kernel_rfl))
    have hbx := hG.below
    have hnx := hG.new
    rw [hG.frame]
    simp only [List.foldl_cons, List.foldl_nil, List.setIfInBounds_toArray, List.set_cons_zero, List.set_cons_succ]
    generalize a.tmps.getD 10 undef = u10
    generalize a.tmps.getD 11 undef = u11
    generalize a.tmps.getD 12 undef = u12
    generalize a.tmps.getD 13 undef = u13
    rw [fv0]
    clear hF hG fv0
    obtain ⟨aD, cE, rfl, hd⟩ := nesO (by rw [HND.out]; exact fp0.1)
    rw [HND.out] at hd ⊢
    have SD := Lib.hid hd
    clear hd
    obtain ⟨qx0, qx1, -, -⟩ := row2 hbq.1
    replace BB := Lib.hid hbx
    clear fo0 fp0 hbq hbx hnx RQ HOQ HW HG HLQ e2 SUD KFD
    go_upto_region 3 with (go_at_call 7; refine (KDE.out _ _ SD.out).mono ?_; rintro e w9 ⟨v1, rfl, hr1, hb1⟩; replace qx0 := cell_keep qx0 hb1; replace qx1 := cell_keep qx1 hb1; replace SD := Lib.hid (SD.out.below hb1); replace BB := Lib.hid (below_step BB.out hb1); obtain ⟨ap, cp, rfl, hd⟩ := dpsO hr1; rw [HNDD.out] at hd ⊢; have Sp := Lib.hid hd; clear hr1 hd hb1 KDE)
    go_upto_region 4 with (go_at_call 8; refine (KCH.out _ _ SD.out).mono ?_; rintro e w9 ⟨v1, rfl, hr1, hb1⟩; replace qx0 := cell_keep qx0 hb1; replace qx1 := cell_keep qx1 hb1; replace SD := Lib.hid (SD.out.below hb1); replace Sp := Lib.hid (Sp.out.below hb1); replace BB := Lib.hid (below_step BB.out hb1); obtain ⟨ac, cc, rfl, hd⟩ := ndsO hr1; rw [HNC.out] at hd ⊢; have Sc := Lib.hid hd; clear hr1 hd hb1 KCH)
    cases od : mayK d
    · have kma := KMA0.out
      rw [od] at kma
      have KMA := Lib.hid kma
      clear kma KMA0
      have h1 := HPC.out
      rw [chainE_no (by rw [od]; rfl)] at h1
      obtain ⟨h3, rfl⟩ := Prod.mk.inj h1
      obtain rfl : nc = 0 := by rw [← HNC.out, ← h3]; rfl
      clear h1 h3
      have h1 := HPD.out
      rw [depE_no od] at h1
      obtain ⟨h3, rfl⟩ := Prod.mk.inj h1
      obtain rfl : ndd = 0 := by rw [← HNDD.out, ← h3]; rfl
      clear h1 h3 od
      go_wp2_with (first
          | (go_at_call 9; refine (KMA.out _ _ SD.out).mono ?_; rintro e w9 ⟨rfl, hb1⟩; replace qx0 := cell_keep qx0 hb1; replace qx1 := cell_keep qx1 hb1; replace SD := Lib.hid (SD.out.below hb1); replace Sp := Lib.hid (Sp.out.below hb1); replace Sc := Lib.hid (Sc.out.below hb1); replace BB := Lib.hid (below_step BB.out hb1); clear hb1)
          | (go_at_call 10; refine (wawake_any _).mono ?_; rintro e w9 ⟨rfl, hb1⟩; replace qx0 := cell_keep qx0 hb1; replace qx1 := cell_keep qx1 hb1; replace SD := Lib.hid (SD.out.below hb1); replace Sp := Lib.hid (Sp.out.below hb1); replace Sc := Lib.hid (Sc.out.below hb1); replace BB := Lib.hid (below_step BB.out hb1); clear hb1))
      go_ret
      exact ⟨rfl, BB.out⟩
    · have h1 := HPD.out
      rw [depE_yes od] at h1
      obtain ⟨h3, rfl⟩ := Prod.mk.inj h1
      have krd := KRD0.out od
      rw [h3] at krd
      have KRD := Lib.hid krd
      have klv := KLV0.out od
      have KLV := Lib.hid klv
      have kdp := KDP0.out
      rw [HDF.out od] at kdp
      clear h1 h3 krd klv KRD0 KLV0
      have kma := KMA0.out
      rw [od] at kma
      have KMA := Lib.hid kma
      clear kma KMA0
      go_upto_region 6 with (go_at_call 9; refine (KMA.out _ _ SD.out).mono ?_; rintro e w9 ⟨rfl, hb1⟩; replace qx0 := cell_keep qx0 hb1; replace qx1 := cell_keep qx1 hb1; replace SD := Lib.hid (SD.out.below hb1); replace Sp := Lib.hid (Sp.out.below hb1); replace Sc := Lib.hid (Sc.out.below hb1); replace BB := Lib.hid (below_step BB.out hb1); clear hb1)
      go_upto_region 8 with (first
          | (go_at_call 12; refine (KRD.out _ _ SD.out).mono ?_; rintro e w9 ⟨v1, rfl, hr1, hb1⟩; replace qx0 := cell_keep qx0 hb1; replace qx1 := cell_keep qx1 hb1; replace SD := Lib.hid (SD.out.below hb1); replace Sp := Lib.hid (Sp.out.below hb1); replace Sc := Lib.hid (Sc.out.below hb1); replace BB := Lib.hid (below_step BB.out hb1); obtain ⟨ar, cr, rfl, hd⟩ := dpsO hr1; rw [HNDD.out] at hd ⊢; have Sr := Lib.hid hd; clear hr1 hd hb1 KRD)
          | (go_at_call 11; refine (deeps_any _ _ _ _ _ Sp.out Sr.out).mono ?_; rintro e w9 ⟨rfl, hb1⟩; rw [decDps]; replace qx0 := cell_keep qx0 hb1; replace qx1 := cell_keep qx1 hb1; replace SD := Lib.hid (SD.out.below hb1); replace Sp := Lib.hid (Sp.out.below hb1); replace Sc := Lib.hid (Sc.out.below hb1); replace BB := Lib.hid (below_step BB.out hb1); clear hb1))
      cases on : okN (q1, q2)
      · have kmn := KMN0.out
        rw [on] at kmn
        have KMN := Lib.hid kmn
        clear kmn KMN0
        have h1 := HPC.out
        rw [chainE_no (by rw [od, on]; rfl)] at h1
        obtain ⟨h3, rfl⟩ := Prod.mk.inj h1
        obtain rfl : nc = 0 := by rw [← HNC.out, ← h3]; rfl
        clear h1 h3
        clear on od
        go_wp2_with (first
            | (go_at_call 13; refine (KMN.out _).mono ?_; rintro e w9 ⟨rfl, hb1⟩; replace qx0 := cell_keep qx0 hb1; replace qx1 := cell_keep qx1 hb1; replace SD := Lib.hid (SD.out.below hb1); replace Sp := Lib.hid (Sp.out.below hb1); replace Sc := Lib.hid (Sc.out.below hb1); replace BB := Lib.hid (below_step BB.out hb1); clear hb1)
            | (go_at_call 10; refine (wawake_any _).mono ?_; rintro e w9 ⟨rfl, hb1⟩; replace qx0 := cell_keep qx0 hb1; replace qx1 := cell_keep qx1 hb1; replace SD := Lib.hid (SD.out.below hb1); replace Sp := Lib.hid (Sp.out.below hb1); replace Sc := Lib.hid (Sc.out.below hb1); replace BB := Lib.hid (below_step BB.out hb1); clear hb1))
        go_ret
        exact ⟨rfl, BB.out⟩
      · have kmn := KMN0.out
        rw [on] at kmn
        have KMN := Lib.hid kmn
        clear kmn KMN0
        go_upto_region 10 with (go_at_call 13; refine (KMN.out _).mono ?_; rintro e w9 ⟨rfl, hb1⟩; replace qx0 := cell_keep qx0 hb1; replace qx1 := cell_keep qx1 hb1; replace SD := Lib.hid (SD.out.below hb1); replace Sp := Lib.hid (Sp.out.below hb1); replace Sc := Lib.hid (Sc.out.below hb1); replace BB := Lib.hid (below_step BB.out hb1); clear hb1)
        go_upto_region 11 with (go_at_call 14; refine (KLV.out _ _ SD.out).mono ?_; rintro e w9 ⟨v1, rfl, hr1, hb1⟩; replace qx0 := cell_keep qx0 hb1; replace qx1 := cell_keep qx1 hb1; replace SD := Lib.hid (SD.out.below hb1); replace Sp := Lib.hid (Sp.out.below hb1); replace Sc := Lib.hid (Sc.out.below hb1); replace BB := Lib.hid (below_step BB.out hb1); obtain ⟨av, cv, rfl, -⟩ := hr1.ex; rw [HNL.out] at hr1 ⊢; have Sv := Lib.hid hr1; clear hr1 hb1 KLV)
        by_cases hf : farW d (q1, q2) = 0
        · rw [hf] at kdp
          have KDP := Lib.hid kdp
          clear kdp
          have h1 := HPC.out
          rw [chainE_none od on hf] at h1
          obtain ⟨h3, rfl⟩ := Prod.mk.inj h1
          obtain rfl : nc = 0 := by rw [← HNC.out, ← h3]; rfl
          clear h1 h3
          clear on od hf
          go_wp2_with (first
              | (go_at_call 15; refine (KDP.out _ _ Sv.out).mono ?_; rintro e w9 ⟨rfl, hb1⟩; replace qx0 := cell_keep qx0 hb1; replace qx1 := cell_keep qx1 hb1; replace SD := Lib.hid (SD.out.below hb1); replace Sp := Lib.hid (Sp.out.below hb1); replace Sc := Lib.hid (Sc.out.below hb1); replace Sv := Lib.hid (Sv.out.below hb1); replace BB := Lib.hid (below_step BB.out hb1); clear hb1)
              | (go_at_call 10; refine (wawake_any _).mono ?_; rintro e w9 ⟨rfl, hb1⟩; replace qx0 := cell_keep qx0 hb1; replace qx1 := cell_keep qx1 hb1; replace SD := Lib.hid (SD.out.below hb1); replace Sp := Lib.hid (Sp.out.below hb1); replace Sc := Lib.hid (Sc.out.below hb1); replace Sv := Lib.hid (Sv.out.below hb1); replace BB := Lib.hid (below_step BB.out hb1); clear hb1))
          go_ret
          exact ⟨rfl, BB.out⟩
        · obtain ⟨f, hf1⟩ : ∃ f, farW d (q1, q2) = f + 1 := ⟨farW d (q1, q2) - 1, by omega⟩
          have hfb := farW_bound od (q1, q2)
          rw [HND.out] at hfb
          have h1 := HPC.out
          rw [chainE_yes od on (by omega)] at h1
          obtain ⟨h3, rfl⟩ := Prod.mk.inj h1
          have krc := KRC0.out od f hf1
          rw [← hf1, h3] at krc
          obtain ⟨ff, hff⟩ : ∃ r, farW d (q1, q2) = r := ⟨_, rfl⟩
          rw [hff] at krc kdp hf hfb
          have hcl : cl.length = ff := by rw [← h3]; exact (chain_facts od (by omega)).1.trans hff
          rw [HNC.out] at hcl
          have KRC := Lib.hid krc; have KDP := Lib.hid kdp; have HCL := Lib.hid hcl
          have hfz : ((ff : Int) == 0) = false := beq_eq_false_iff_ne.2 (by omega)
          clear h1 h3 krc kdp hff hcl hf1 on od hf KRC0
          go_upto_region 13 with (go_at_call 15; refine (KDP.out _ _ Sv.out).mono ?_; rintro e w9 ⟨rfl, hb1⟩; replace qx0 := cell_keep qx0 hb1; replace qx1 := cell_keep qx1 hb1; replace SD := Lib.hid (SD.out.below hb1); replace Sp := Lib.hid (Sp.out.below hb1); replace Sc := Lib.hid (Sc.out.below hb1); replace Sv := Lib.hid (Sv.out.below hb1); replace BB := Lib.hid (below_step BB.out hb1); clear hb1)
          go_wp2_with (first
              | (go_at_call 17; refine (KRC.out _ _ _ SD.out Sv.out).mono ?_; rintro e w9 ⟨v1, rfl, hr1, hb1⟩; replace qx0 := cell_keep qx0 hb1; replace qx1 := cell_keep qx1 hb1; replace SD := Lib.hid (SD.out.below hb1); replace Sp := Lib.hid (Sp.out.below hb1); replace Sc := Lib.hid (Sc.out.below hb1); replace Sv := Lib.hid (Sv.out.below hb1); replace BB := Lib.hid (below_step BB.out hb1); obtain ⟨ar, cr, rfl, hd⟩ := ndsO (by rw [HNC.out, HCL.out]; exact hr1); rw [HNC.out] at hd ⊢; have Sq := Lib.hid hd; clear hr1 hd hb1 KRC)
              | (go_at_call 16; refine (nsame_any _ _ _ _ _ Sc.out Sq.out).mono ?_; rintro e w9 ⟨rfl, hb1⟩; rw [decNds]; replace qx0 := cell_keep qx0 hb1; replace qx1 := cell_keep qx1 hb1; replace SD := Lib.hid (SD.out.below hb1); replace Sp := Lib.hid (Sp.out.below hb1); replace Sc := Lib.hid (Sc.out.below hb1); replace Sv := Lib.hid (Sv.out.below hb1); replace BB := Lib.hid (below_step BB.out hb1); clear hb1)
              | (go_at_call 10; refine (wawake_any _).mono ?_; rintro e w9 ⟨rfl, hb1⟩; replace qx0 := cell_keep qx0 hb1; replace qx1 := cell_keep qx1 hb1; replace SD := Lib.hid (SD.out.below hb1); replace Sp := Lib.hid (Sp.out.below hb1); replace Sc := Lib.hid (Sc.out.below hb1); replace Sv := Lib.hid (Sv.out.below hb1); replace BB := Lib.hid (below_step BB.out hb1); clear hb1))
          go_ret
          exact ⟨rfl, BB.out⟩

theorem own : ownKnob Tryz.prog.godebug = none := by kernel_rfl
theorem laidOut : laidOutB Tryz.prog = true := by kernel_rfl

set_option maxRecDepth 100000 in
theorem lifted (os : Os) (started : os.Started) (H : Type) (enc : TypeId × Value → H) :
    ReturnsInHanded {} Tryz.checked os 3 .any (Rows.whyTellsSpec.pre6 enc Tryz.prog Tryz.f3 Rows.whyTellsRow.domain false) (Rows.whyTellsSpec.post enc Tryz.prog Tryz.f3 false true false false) := by
  refine returnsInHanded_of_change (C := Tryz.checked) own started (by kernel_rfl) Tryz.func3
    (ChangeSpec.witness6 (enc := enc) (C := Tryz.checked) false ⟨#[], #[.slice none 0 0, .agg #[.string ByteArray.empty, .string ByteArray.empty]], []⟩ 8 (by kernel_rfl) (by kernel_rfl) (by kernel_rfl) (by kernel_rfl)) ?_
  intro W base args ds gs before hval0 hW hcnd _
  have hval : ∀ (j : Nat) t v, Tryz.f3.params[j]? = some t → args[j]? = some v → Value.okWide Tryz.prog W .any base t v := hval0
  have hW' := hW
  obtain ⟨p, q, hA0, hV, rfl, hfz, hnd⟩ := hW
  have hA : DataW.TrodAll enc Tryz.prog W 0 (fun _ => true) true Tryz.f3.params.toList args.toList ds p := hA0
  rw [Tryz.params3] at hA hval
  obtain ⟨v0, vs0, d0, ds0, p0, q0, hargs, rfl, rfl, h0, r0⟩ := trodAll_cons hA
  obtain ⟨v1, vs1, d1, ds1, p1, q1, rfl, rfl, rfl, h1, r1⟩ := trodAll_cons r0
  obtain ⟨rfl, rfl, rfl⟩ := trodAll_nil r1
  obtain rfl : args = #[v0, v1] := by cases args; simp_all
  obtain ⟨rfl, rfl⟩ := trodVars_none hV
  obtain ⟨a0, len0, cap0, rfl⟩ := okWide_slice Tryz.underlying22 (hval 0 22 v0 rfl rfl)
  have k0 := h0
  have lt0 : ∀ x ∈ p0, x.block < W.heap.size := by obtain ⟨m, hm⟩ := k0; exact DataW.trod_lt m _ _ _ hm
  obtain ⟨z0, w0⟩ : ∃ zs, Nes W (.slice a0 len0 cap0) zs ∧ ∀ e ∈ zs, fitNe e := by
    obtain ⟨fuel, hf⟩ := h0
    exact nes_open (by simpa [Value.cells] using hf)
  have k1 := h1
  have lt1 : ∀ x ∈ p1, x.block < W.heap.size := by obtain ⟨m, hm⟩ := k1; exact DataW.trod_lt m _ _ _ hm
  obtain ⟨z1, w1⟩ := node_open (hval 1 24 v1 rfl rfl) h1
  clear hA0 hval0
  refine (walk _ z0 _ z1 W w0 w1).mono fun e W' ⟨he, bel⟩ => ?_
  subst he
  exact ⟨_, rfl, _, _, _, [], _, [], hW', trodAll_mk1 (shut_bool Tryz.underlying4 _), (trodAll_cons_mk (Below.trod laidOut (by kernel_rfl) (of_decide_eq_true (by kernel_rfl)) k0 bel lt0) (trodAll_cons_mk (Below.trod laidOut (by kernel_rfl) (of_decide_eq_true (by kernel_rfl)) k1 bel lt1) trodAll_mk0)), rfl, bel.frame _, fun h => by cases h⟩

-- the given statement
theorem proved : Rows.WhyTellsSaid :=
  OpenClaim.holds_of_wide 3 Tryz.f3 rfl rfl rfl rfl rfl rfl rfl ⟨rfl, rfl, rfl, rfl, rfl⟩ rfl rfl rfl rfl rfl (by kernel_rfl) Tryz.func3 (by kernel_rfl)
    (of_decide_eq_true (by kernel_rfl)) (by unfold Func.isWrapper; first | (rw [if_pos (by decide +kernel)]; kernel_rfl) | (rw [if_neg (by decide +kernel)]; exact ⟨rfl, rfl⟩))
    (fun os started H enc _ => lifted os started H enc)
end Go.Proofs.YtdefphacdcbljaaGreat.whyTells
