/- Of every two lists of nodes and every node (no more, and no longer, than are looked at): a manifest more takes just its own node away; what is missing is reached, and has none; with a manifest of each nothing is missing; no condition. -/
import Derived.Test.YtjnkjjlpkgbkiaaGreatRows
import Derived.Test.YtjnkjjlpkgbkiaaGreatLakJ
import Derived.Test.YtjnkjjlpkgbkiaaGreatLakS
import Derived.Test.YtjnkjjlpkgbkiaaGreatNodU
import Derived.ProofKit
import Derived.OpenShut
import Derived.ShutString
import Derived.ChangeOld
namespace Go.Proofs.YtjnkjjlpkgbkiaaGreat.lackLess
open Go.ChangeShapes Go.WideShapes Go.ChangeAt Go.RowKit
open Go.ChangeMaps (open_string shut_string)
set_option maxRecDepth 100000
set_option linter.unusedVariables false

theorem decNds (l : List Nd) : decide (l = l) = true := decide_eq_true rfl
theorem decLks (l : List Lk) : decide (l = l) = true := decide_eq_true rfl
theorem fewNs_text (l : List Nd) : ∀ n ∈ fewNs l, n.1.length ≤ 400 ∧ n.2.length ≤ 400 := fun n h => by
  obtain ⟨m, _, rfl⟩ := List.mem_map.1 h; exact ⟨fewL_len _, fewL_len _⟩
theorem minus_with {l m : List Nd} {q : Nd} (hm : checkN m = true) (hq : okN q = true) : minusN l (withN m q) = minusN (minusN l m) [q] := by
  unfold minusN
  rw [List.filter_filter]
  refine List.filter_congr fun x _ => ?_
  have h : hasN (withN m q) x = (hasN m x || hasN [q] x) := by
    rw [Bool.eq_iff_iff, Bool.or_eq_true, hasN_iff, hasN_iff, hasN_iff, withN_mem (checkN_ok hm) hq, List.mem_singleton]
  rw [h]
  cases hasN m x <;> cases hasN [q] x <;> rfl
theorem minus_nil (l : List Nd) : minusN l [] = l := by
  unfold minusN
  exact List.filter_eq_self.2 fun x _ => rfl
theorem check_one {q : Nd} (h : okN q = true) : checkN [q] = true := checkN_of (fun n hn => by rw [List.mem_singleton.1 hn]; exact h) (by simp [Rises])
set_option maxRecDepth 100000 in
set_option maxHeartbeats 3200000 in
theorem walk (Ua : Value) (ka : List Nd) (Ub : Value) (kb : List Nd) (Q : Value) (q : Nd) (w : World) (hUa : Nds w Ua ka ∧ ∀ n ∈ ka, fitsN n) (hUb : Nds w Ub kb ∧ ∀ n ∈ kb, fitsN n) (hQ : Q = .agg #[.string (mkB q.1), .string (mkB q.2)] ∧ fitsN q) :
    Calls Tryz.prog 5 #[Ua, Ub, Q] w fun e w' => e = .returned (.bool true) ∧ Below w.heap.size w w' := by
  obtain ⟨hUa, fUa⟩ := hUa
  obtain ⟨Aa, ca, rfl, -⟩ := hUa.ex
  have kfa := fun V w h => nfewo_any V ka w h fUa
  have hmla := fewNs_len ka; have hmza := fewNs_small ka; have hmta := fewNs_text ka
  obtain ⟨ma, hma⟩ : ∃ r, ka.length = r := ⟨_, rfl⟩
  rw [hma] at hUa ⊢
  obtain ⟨sa, hsa⟩ : ∃ r, fewNs ka = r := ⟨_, rfl⟩
  rw [hsa] at kfa hmla hmza hmta
  obtain ⟨na, hna⟩ : ∃ r, sa.length = r := ⟨_, rfl⟩
  rw [hna] at hmla
  have SUa := Lib.hid hUa; have KFa := Lib.hid kfa; have HZA := Lib.hid hmza; have HNA := Lib.hid hna; have HTA := Lib.hid hmta
  clear hUa fUa kfa hmza hmta hma hsa hna
  obtain ⟨hUb, fUb⟩ := hUb
  obtain ⟨Ab, cb, rfl, -⟩ := hUb.ex
  have kfb := fun V w h => nfewo_any V kb w h fUb
  have hmlb := fewNs_len kb; have hmzb := fewNs_small kb; have hmtb := fewNs_text kb
  obtain ⟨mb, hmb⟩ : ∃ r, kb.length = r := ⟨_, rfl⟩
  rw [hmb] at hUb ⊢
  obtain ⟨sb, hsb⟩ : ∃ r, fewNs kb = r := ⟨_, rfl⟩
  rw [hsb] at kfb hmlb hmzb hmtb
  obtain ⟨nb, hnb⟩ : ∃ r, sb.length = r := ⟨_, rfl⟩
  rw [hnb] at hmlb
  have SUb := Lib.hid hUb; have KFb := Lib.hid kfb; have HZB := Lib.hid hmzb; have HNB := Lib.hid hnb; have HTB := Lib.hid hmtb
  clear hUb fUb kfb hmzb hmtb hmb hsb hnb
  obtain ⟨rfl, fq⟩ := hQ
  obtain ⟨pq, vq⟩ := q
  simp only at fq ⊢
  have hsq := oneN_small (pq, vq)
  have hoq := fun w => one_any pq vq w fq.1 fq.2
  obtain ⟨q1, hq1⟩ : ∃ r, fewL pq = r := ⟨_, rfl⟩
  obtain ⟨q2, hq2⟩ : ∃ r, fewL vq = r := ⟨_, rfl⟩
  have hsq2 : smallN (q1, q2) := by rw [← hq1, ← hq2]; exact hsq
  rw [hq1, hq2] at hoq
  obtain ⟨W, gq, hW, hg, r1, hb⟩ := boxHK w (.string (mkB pq)) (.string (mkB vq)) 42
  have HSQ := Lib.hid hsq2; have HOQ := Lib.hid hoq; have HLQ := Lib.hid (show w.heap.size ≤ gq by omega); have HW := Lib.hid hW; have HG := Lib.hid hg; have RQ := Lib.hid r1; have BB := Lib.hid hb
  clear hsq hsq2 hoq hq1 hq2 hW hg r1 hb fq
  have kmi := fun U V w hU hV => lMiss_any U V sa sb w hU hV HZA.out HZB.out (by rw [HNA.out]; omega) (by rw [HNB.out]; omega)
  have kwi := fun U w h => nwith_any U sb q1 q2 w h HZB.out (by rw [HNB.out]; omega) HSQ.out.1 HSQ.out.2
  obtain ⟨PM, hPM⟩ : ∃ E, minusNE sa sb = E := ⟨_, rfl⟩
  obtain ⟨PW, hPW⟩ : ∃ E, withNE sb (q1, q2) = E := ⟨_, rfl⟩
  rw [hPM] at kmi
  rw [hPW] at kwi
  obtain ⟨mm, mk⟩ := PM
  obtain ⟨wi, wk⟩ := PW
  simp only at kmi kwi
  obtain ⟨nm, hnm⟩ : ∃ r, mm.length = r := ⟨_, rfl⟩
  obtain ⟨nw, hnw⟩ : ∃ r, wi.length = r := ⟨_, rfl⟩
  have KMI := Lib.hid kmi; have KWI := Lib.hid kwi; have HPM := Lib.hid hPM; have HPW := Lib.hid hPW; have HNM := Lib.hid hnm; have HNW := Lib.hid hnw
  clear kmi kwi hPM hPW hnm hnw
  have ea : ∀ args w, (callFunc 6 args).run Tryz.prog w = .ok (.enter 6 args) w := enters_of Tryz.func6 (by kernel_rfl) rfl
  have eb := ea
  have e2 : ∀ args w, (callFunc 18 args).run Tryz.prog w = .ok (.enter 18 args) w := enters_of Tryz.func18 (by kernel_rfl) rfl
  go_enter Tryz.func5, Tryz.ntmps5
  go_upto_region 1 with fail
  rw [HW.out, HG.out]
  refine rol_run (by kernel_rfl) [[], [0], [], [0, 1, 2], [], [0, 1, 2, 3, 4], [0, 1, 2, 3, 4, 5], [0, 1, 2, 3, 4, 5, 6], [0, 1, 2, 3, 4, 5, 6, 7]] (by kernel_rfl) [20, 21, 22, 23, 24, 25, 0, 1] [[10], [0], [11], [2], [9], [4], [1], [3], [5, 9]] [0, 1, 0, 2, 0, 0, 1, 2, 5, 5, 0, 0] [0, 0, 0, 0, 0, 0, 0, 0, 5] [1000, 1000, 1000, 1000, 1000, 1000, 1000, 1000, 1000, 8, 6, 7] [.val 20 (.slice Aa ma ca), .mem 21 (rowG W.heap.size 42 2 sa.length (ndsC sa)), .val 22 (.slice Ab mb cb), .mem 23 (rowG W.heap.size 42 2 sb.length (ndsC sb)), .val 24 (.agg #[.string (mkB pq), .string (mkB vq)]), .val 25 (.agg #[.string (mkB q1), .string (mkB q2)]), .mem 0 (rowG W.heap.size 42 2 sa.length (ndsC sa)), .mem 1 (rowG W.heap.size 42 2 sb.length (ndsC sb)), .box (gq) (.cells #[.string (mkB q1), .string (mkB q2)] 42), .box (gq) (.cells #[.string (mkB pq), .string (mkB vq)] 42), .val 0 (.slice Aa ma ca), .val 1 (.slice Ab mb cb)] (by kernel_rfl) ?_ (w.heap.size) (W.heap.size) rfl BB.out rfl (fun k => if k = gq then 5 else 7) ?_ ?_ ?_
  · intro j hj
    have hj3 : j < 12 := hj
    have hj2 : j = 0 ∨ j = 1 ∨ j = 2 ∨ j = 3 ∨ j = 4 ∨ j = 5 ∨ j = 6 ∨ j = 7 ∨ j = 8 ∨ j = 9 ∨ j = 10 ∨ j = 11 := by omega
    clear hj hj3
    rcases hj2 with rfl | rfl | rfl | rfl | rfl | rfl | rfl | rfl | rfl | rfl | rfl | rfl
    · exact trivial
    · exact rowG_near
    · exact trivial
    · exact rowG_near
    · exact trivial
    · exact trivial
    · exact rowG_near
    · exact rowG_near
    · exact trivial
    · exact trivial
    · exact trivial
    · exact trivial
  · intro j hj0 hj
    have hj1 : 9 ≤ j := hj0
    have hj3 : j < 12 := hj
    have hj2 : j = 9 ∨ j = 10 ∨ j = 11 := by omega
    clear hj0 hj hj1 hj3
    rcases hj2 with rfl | rfl | rfl
    · exact ⟨RQ.out, if_pos rfl⟩
    · exact rfl
    · exact rfl
  · intro i hi a wx who hG hF
    have hz : a.tmps.size = 126 := hG.size
    have hi3 : i < 9 := hi
    have hi2 : i = 0 ∨ i = 1 ∨ i = 2 ∨ i = 3 ∨ i = 4 ∨ i = 5 ∨ i = 6 ∨ i = 7 ∨ i = 8 := by omega
    clear hi hi3
    rcases hi2 with rfl | rfl | rfl | rfl | rfl | rfl | rfl | rfl | rfl
    · exact rol_val rfl rfl rfl (by rw [hz]; decide) (ex_move (Or.inl rfl) (eval_slot (hF 10 (by decide)))) hG.below
    · refine rol_calls rfl rfl rfl (by rw [hz]; decide) (ex_call rfl (by simp [eval_slot (hF 0 (by decide))]) ea) (KFa.out _ wx (SUa.out.below hG.below)) ?_ hG.below (Nat.le_trans BB.out.size hG.new)
      rintro e w1 ⟨u, rfl, hso, hb1⟩
      exact ⟨u, rfl, hb1, .inr (.inl ⟨_, u.ownBlock, rfl, fun b e => own_lt hso e, row_base hso hG.new, rfl⟩)⟩
    · exact rol_val rfl rfl rfl (by rw [hz]; decide) (ex_move (Or.inl rfl) (eval_slot (hF 11 (by decide)))) hG.below
    · refine rol_calls rfl rfl rfl (by rw [hz]; decide) (ex_call rfl (by simp [eval_slot (hF 2 (by decide))]) eb) (KFb.out _ wx (SUb.out.below hG.below)) ?_ hG.below (Nat.le_trans BB.out.size hG.new)
      rintro e w1 ⟨u, rfl, hso, hb1⟩
      exact ⟨u, rfl, hb1, .inr (.inl ⟨_, u.ownBlock, rfl, fun b e => own_lt hso e, row_base hso hG.new, rfl⟩)⟩
    · exact rol_val rfl rfl rfl (by rw [hz]; decide) (ex_load rfl (eval_slot ((hG.slots 5 (by decide)).trans rfl)) (ld_node (row2 (hF 9 (by decide)).1).1 (row2 (hF 9 (by decide)).1).2.1)) hG.below
    · refine rol_calls rfl rfl rfl (by rw [hz]; decide) (ex_call rfl (by simp [eval_slot (hF 4 (by decide))]) e2) (HOQ.out wx) ?_ hG.below (Nat.le_trans BB.out.size hG.new)
      rintro e w1 ⟨rfl, hb1⟩
      exact ⟨_, rfl, hb1, .inl rfl⟩
    · exact rol_move rfl rfl rfl (by rw [hz]; decide) (Or.inr rfl) (hF 1 (by decide)) hG.below
    · exact rol_move rfl rfl rfl (by rw [hz]; decide) (Or.inr rfl) (hF 3 (by decide)) hG.below
    · exact rol_box_ndK rfl rfl rfl rfl (eval_slot ((hG.slots 5 (by decide)).trans rfl)) (eval_slot (hF 5 (by decide))) (hF 9 (by decide)) hG.below HLQ.out
  · intro a wx who hG hF
    obtain ⟨v0, ob0, fv0, fo0, fp0⟩ := hF 6 (of_decide_eq_true (by kernel_rfl)) (of_decide_eq_true (by kernel_rfl))
    replace fv0 : a.tmps.getD 0 undef = v0 := eval_slot (s := 0) fv0
    obtain ⟨v1, ob1, fv1, fo1, fp1⟩ := hF 7 (of_decide_eq_true (by kernel_rfl)) (of_decide_eq_true (by kernel_rfl))
    replace fv1 : a.tmps.getD 1 undef = v1 := eval_slot (s := 1) fv1
    have hbq := hF 8 (of_decide_eq_true (by kernel_rfl)) (of_decide_eq_true (by kernel_rfl))
    have hbx := hG.below
    have hnx := hG.new
    rw [hG.frame]
    simp only [List.foldl_cons, List.foldl_nil, List.setIfInBounds_toArray, List.set_cons_zero, List.set_cons_succ]
    generalize a.tmps.getD 20 undef = u20
    generalize a.tmps.getD 21 undef = u21
    generalize a.tmps.getD 22 undef = u22
    generalize a.tmps.getD 23 undef = u23
    generalize a.tmps.getD 24 undef = u24
    generalize a.tmps.getD 25 undef = u25
    rw [fv0]
    rw [fv1]
    clear hF hG fv0 fv1
    obtain ⟨aa, ca9, rfl, hd⟩ := ndsO fp0.1
    rw [HNA.out] at hd ⊢
    have Sa := Lib.hid hd
    clear hd
    obtain ⟨ab, cb9, rfl, hd⟩ := ndsO fp1.1
    rw [HNB.out] at hd ⊢
    have Sb := Lib.hid hd
    clear hd
    obtain ⟨qx0, qx1, -, -⟩ := row2 hbq.1
    replace BB := Lib.hid hbx
    clear fo0 fp0 fo1 fp1 hbq hbx hnx RQ HOQ HW HG HLQ e2 SUa KFa SUb KFb
    clear ea eb
    go_upto_region 3 with (go_at_call 8; refine (KMI.out _ _ _ Sa.out Sb.out).mono ?_; rintro e w9 ⟨am, cm, rfl, hd, hb1⟩; replace qx0 := cell_keep qx0 hb1; replace qx1 := cell_keep qx1 hb1; replace Sa := Lib.hid (Sa.out.below hb1); replace Sb := Lib.hid (Sb.out.below hb1); replace BB := Lib.hid (below_step BB.out hb1); rw [HNM.out] at hd ⊢; have Sm := Lib.hid hd; clear hd hb1 KMI)
    go_upto_region 4 with (go_at_call 22; refine (KWI.out _ _ Sb.out).mono ?_; rintro e w9 ⟨aw, cw, rfl, hd, hb1⟩; replace qx0 := cell_keep qx0 hb1; replace qx1 := cell_keep qx1 hb1; replace Sa := Lib.hid (Sa.out.below hb1); replace Sb := Lib.hid (Sb.out.below hb1); replace Sm := Lib.hid (Sm.out.below hb1); replace BB := Lib.hid (below_step BB.out hb1); rw [HNW.out] at hd ⊢; have Sw := Lib.hid hd; clear hd hb1 KWI)
    cases oa : checkN sa
    · have h1 := HPM.out
      rw [minusNE_no (by rw [oa]; rfl)] at h1
      obtain ⟨-, rfl⟩ := Prod.mk.inj h1
      clear h1
      go_wp2_with (go_at_call 13; refine (kawake_any _).mono ?_; rintro e w9 ⟨rfl, hb1⟩; replace BB := Lib.hid (below_step BB.out hb1); clear hb1)
      go_ret
      exact ⟨rfl, BB.out⟩
    · cases ob : checkN sb
      · have h1 := HPM.out
        rw [minusNE_no (by rw [oa, ob]; rfl)] at h1
        obtain ⟨-, rfl⟩ := Prod.mk.inj h1
        clear h1
        go_wp2_with (go_at_call 13; refine (kawake_any _).mono ?_; rintro e w9 ⟨rfl, hb1⟩; replace BB := Lib.hid (below_step BB.out hb1); clear hb1)
        go_ret
        exact ⟨rfl, BB.out⟩
      · cases on : okN (q1, q2)
        · have h1 := HPM.out
          rw [minusNE_yes oa ob] at h1
          obtain ⟨-, rfl⟩ := Prod.mk.inj h1
          have h2 := HPW.out
          rw [withNE_no (by rw [ob, on]; rfl)] at h2
          obtain ⟨-, rfl⟩ := Prod.mk.inj h2
          clear h1 h2
          go_wp2_with (go_at_call 13; refine (kawake_any _).mono ?_; rintro e w9 ⟨rfl, hb1⟩; replace BB := Lib.hid (below_step BB.out hb1); clear hb1)
          go_ret
          exact ⟨rfl, BB.out⟩
        · have h1 := HPM.out
          rw [minusNE_yes oa ob] at h1
          obtain ⟨h3, rfl⟩ := Prod.mk.inj h1
          have h2 := HPW.out
          rw [withNE_yes ob on] at h2
          obtain ⟨h4, rfl⟩ := Prod.mk.inj h2
          have hmc : checkN mm = true := by rw [← h3]; exact minusN_check oa
          have hwc : checkN wi = true := by rw [← h4]; exact withN_check ob on
          have hml : nm ≤ 24 := by rw [← HNM.out, ← h3]; exact Nat.le_trans (minusN_len _ _) (by rw [HNA.out]; omega)
          have hwl : nw ≤ 100 := by rw [← HNW.out, ← h4]; have h5 := withN_len1 sb (q1, q2); rw [HNB.out] at h5; omega
          have hms : ∀ n ∈ mm, smallN n := fun n hn => HZA.out n (by rw [← h3, minusN_mem] at hn; exact hn.1)
          have hws : ∀ n ∈ wi, smallN n := fun n hn => by
            rw [← h4, withN_mem (checkN_ok ob) on] at hn
            rcases hn with h | rfl
            · exact HZB.out n h
            · exact HSQ.out
          have hin : ∀ n ∈ mm, hasN sa n = true ∧ hasN sb n = false := fun n hn => by
            rw [← h3, minusN_mem] at hn
            exact ⟨hasN_iff.2 hn.1, hasN_not.2 hn.2⟩
          have kis := fun U V w hU hV => lMiss_any U V sa wi w hU hV HZA.out hws (by rw [HNA.out]; omega) (by rw [HNW.out]; omega)
          have kle := fun U w h => nwithout_any U mm q1 q2 w h hms (by rw [HNM.out]; omega) HSQ.out.1 HSQ.out.2
          have kno := fun U V w hU hV => lMiss_any U V sa sa w hU hV HZA.out HZA.out (by rw [HNA.out]; omega) (by rw [HNA.out]; omega)
          have kal := fun U V w hU hV => lMiss_any U V sa [] w hU hV HZA.out (fun n hn => by cases hn) (by rw [HNA.out]; omega) (by decide)
          have kck := fun V w h => ncheck_e V mm w h hms
          rw [chkE_yes hmc] at kck
          rw [minusNE_yes oa hwc] at kis
          rw [minusNE_yes hmc (check_one on), ← h3, ← minus_with ob on, h4] at kle
          rw [minusNE_yes oa oa, minusN_self] at kno
          rw [minusNE_yes oa rfl, minus_nil] at kal
          obtain ⟨L5, hL5⟩ : ∃ r, minusN sa wi = r := ⟨_, rfl⟩
          rw [hL5] at kis kle
          obtain ⟨n5, hn5⟩ : ∃ r, L5.length = r := ⟨_, rfl⟩
          simp only at kis kle kno kal
          rw [h3] at kle
          rw [HNA.out] at kal
          have KIS := Lib.hid kis; have KLE := Lib.hid kle; have KNO := Lib.hid kno; have KAL := Lib.hid kal; have KCK := Lib.hid kck; have HIN := Lib.hid hin; have HN5 := Lib.hid hn5; have HN0 := Lib.hid (show ([] : List Nd).length = 0 from rfl)
          clear h1 h2 h3 h4 hmc hwc hms hws hin kis kle kno kal kck hL5 hn5
          go_upto_region 7 with (go_at_call 8; refine (KIS.out _ _ _ Sa.out Sw.out).mono ?_; rintro e w9 ⟨ai, ci, rfl, hd, hb1⟩; replace qx0 := cell_keep qx0 hb1; replace qx1 := cell_keep qx1 hb1; replace Sa := Lib.hid (Sa.out.below hb1); replace Sb := Lib.hid (Sb.out.below hb1); replace Sm := Lib.hid (Sm.out.below hb1); replace Sw := Lib.hid (Sw.out.below hb1); replace BB := Lib.hid (below_step BB.out hb1); rw [HN5.out] at hd ⊢; have Si := Lib.hid hd; clear hd hb1 KIS)
          go_upto_region 8 with (go_at_call 23; refine (KLE.out _ _ Sm.out).mono ?_; rintro e w9 ⟨al, cl, rfl, hd, hb1⟩; replace qx0 := cell_keep qx0 hb1; replace qx1 := cell_keep qx1 hb1; replace Sa := Lib.hid (Sa.out.below hb1); replace Sb := Lib.hid (Sb.out.below hb1); replace Sm := Lib.hid (Sm.out.below hb1); replace Sw := Lib.hid (Sw.out.below hb1); replace Si := Lib.hid (Si.out.below hb1); replace BB := Lib.hid (below_step BB.out hb1); rw [HN5.out] at hd ⊢; have Sl := Lib.hid hd; clear hd hb1 KLE qx0 qx1)
          go_upto_region 9 with (go_at_call 8; refine (KNO.out _ _ _ Sa.out Sa.out).mono ?_; rintro e w9 ⟨an, cn, rfl, hd, hb1⟩; replace Sa := Lib.hid (Sa.out.below hb1); replace Sb := Lib.hid (Sb.out.below hb1); replace Sm := Lib.hid (Sm.out.below hb1); replace Sw := Lib.hid (Sw.out.below hb1); replace Si := Lib.hid (Si.out.below hb1); replace Sl := Lib.hid (Sl.out.below hb1); replace BB := Lib.hid (below_step BB.out hb1); rw [HN0.out] at hd ⊢; have Sn := Lib.hid hd; clear hd hb1 KNO)
          go_upto_region 10 with (go_at_call 8; refine (KAL.out _ _ _ Sa.out (nds_none _)).mono ?_; rintro e w9 ⟨aq, cq, rfl, hd, hb1⟩; replace Sa := Lib.hid (Sa.out.below hb1); replace Sb := Lib.hid (Sb.out.below hb1); replace Sm := Lib.hid (Sm.out.below hb1); replace Sw := Lib.hid (Sw.out.below hb1); replace Si := Lib.hid (Si.out.below hb1); replace Sl := Lib.hid (Sl.out.below hb1); replace Sn := Lib.hid (Sn.out.below hb1); replace BB := Lib.hid (below_step BB.out hb1); have Sq := Lib.hid hd; clear hd hb1 KAL)
          obtain ⟨W9, hW9⟩ : ∃ v, v = w9 := ⟨_, rfl⟩
          subst hW9
          go_wp2
          go_loopw [19] (fun i wr => ∃ k : Nat, k ≤ nm ∧ i = .int .i64 k ∧ Hid (Below W9.heap.size W9 wr)) (fun i _ => nm - (intOf i).toNat)
          case atStart => exact ⟨0, Nat.zero_le _, rfl, Lib.hid (Below.refl _ _)⟩
          case round =>
            obtain ⟨k, hk, rfl, HB⟩ := hrel
            by_cases hlt : k < nm
            · have hkl : k < mm.length := by rw [HNM.out]; exact hlt
              obtain ⟨bz, oz, rfl, -, hz0, hz1⟩ := (Sm.out.below HB.out).at k hkl
              have hiy := HIN.out _ (nd_mem hkl)
              obtain ⟨y, hy⟩ : ∃ y, y = mm.getD k ([], []) := ⟨_, rfl⟩
              rw [← hy] at hz0 hz1 hiy
              obtain ⟨y1, y2⟩ := y
              simp only at hz0 hz1
              obtain ⟨hi1, hi2⟩ := hiy
              have HI1 := Lib.hid hi1; have HI2 := Lib.hid hi2; have SA1 := Lib.hid (Sa.out.below HB.out); have SB1 := Lib.hid (Sb.out.below HB.out)
              clear hy hi1 hi2
              have hkb : (k : Int) < (nm : Int) := by omega
              go_wp2_with (go_at_call 24; refine Calls.mono (refnhas_any _ _ _ _ _ (by first | exact SA1.out | exact SB1.out)) ?_; rintro e w9 ⟨rfl, hb1⟩; (first | rw [HI1.out] | rw [HI2.out]); replace HB := Lib.hid (below_step HB.out hb1); replace SB1 := Lib.hid (SB1.out.below hb1); replace hz0 := cell_keep hz0 hb1; replace hz1 := cell_keep hz1 hb1; clear hb1)
              go_roundw
              case rel => exact ⟨k + 1, by omega, by go_num, HB⟩
              case measure => simp [intOf]; omega
            · have e : k = nm := by omega
              subst e
              replace Sa := Lib.hid (Sa.out.below HB.out)
              replace Sb := Lib.hid (Sb.out.below HB.out)
              replace Sm := Lib.hid (Sm.out.below HB.out)
              replace Sw := Lib.hid (Sw.out.below HB.out)
              replace Si := Lib.hid (Si.out.below HB.out)
              replace Sl := Lib.hid (Sl.out.below HB.out)
              replace Sn := Lib.hid (Sn.out.below HB.out)
              replace Sq := Lib.hid (Sq.out.below HB.out)
              replace BB := Lib.hid (below_step BB.out HB.out)
              clear HB
              go_wp2_with (first
                  | (go_at_call 14; refine Calls.mono (nsame_any _ _ _ _ _ (by first | exact Si.out | exact Sq.out) (by first | exact Sl.out | exact Sa.out)) ?_; rintro e w9 ⟨rfl, hb1⟩; rw [decNds]; replace Sa := Lib.hid (Sa.out.below hb1); replace Sb := Lib.hid (Sb.out.below hb1); replace Sm := Lib.hid (Sm.out.below hb1); replace Sw := Lib.hid (Sw.out.below hb1); replace Si := Lib.hid (Si.out.below hb1); replace Sl := Lib.hid (Sl.out.below hb1); replace Sn := Lib.hid (Sn.out.below hb1); replace Sq := Lib.hid (Sq.out.below hb1); replace BB := Lib.hid (below_step BB.out hb1); clear hb1)
                  | (go_at_call 25; refine (KCK.out _ _ Sm.out).mono ?_; rintro e w9 ⟨rfl, hb1⟩; replace Sa := Lib.hid (Sa.out.below hb1); replace Sb := Lib.hid (Sb.out.below hb1); replace Sm := Lib.hid (Sm.out.below hb1); replace Sw := Lib.hid (Sw.out.below hb1); replace Si := Lib.hid (Si.out.below hb1); replace Sl := Lib.hid (Sl.out.below hb1); replace Sn := Lib.hid (Sn.out.below hb1); replace Sq := Lib.hid (Sq.out.below hb1); replace BB := Lib.hid (below_step BB.out hb1); clear hb1)
                  | (go_at_call 13; refine (kawake_any _).mono ?_; rintro e w9 ⟨rfl, hb1⟩; replace Sa := Lib.hid (Sa.out.below hb1); replace Sb := Lib.hid (Sb.out.below hb1); replace Sm := Lib.hid (Sm.out.below hb1); replace Sw := Lib.hid (Sw.out.below hb1); replace Si := Lib.hid (Si.out.below hb1); replace Sl := Lib.hid (Sl.out.below hb1); replace Sn := Lib.hid (Sn.out.below hb1); replace Sq := Lib.hid (Sq.out.below hb1); replace BB := Lib.hid (below_step BB.out hb1); clear hb1))
              go_ret
              exact ⟨rfl, BB.out⟩

theorem own : ownKnob Tryz.prog.godebug = none := by kernel_rfl
theorem laidOut : laidOutB Tryz.prog = true := by kernel_rfl

set_option maxRecDepth 100000 in
theorem lifted (os : Os) (started : os.Started) (H : Type) (enc : TypeId × Value → H) :
    ReturnsInHanded {} Tryz.checked os 5 .any (Rows.lackLessSpec.pre6 enc Tryz.prog Tryz.f5 Rows.lackLessRow.domain false) (Rows.lackLessSpec.post enc Tryz.prog Tryz.f5 false true false false) := by
  refine returnsInHanded_of_change (C := Tryz.checked) own started (by kernel_rfl) Tryz.func5
    (ChangeSpec.witness6 (enc := enc) (C := Tryz.checked) false ⟨#[], #[.slice none 0 0, .slice none 0 0, .agg #[.string ByteArray.empty, .string ByteArray.empty]], []⟩ 8 (by kernel_rfl) (by kernel_rfl) (by kernel_rfl) (by kernel_rfl)) ?_
  intro W base args ds gs before hval0 hW hcnd _
  have hval : ∀ (j : Nat) t v, Tryz.f5.params[j]? = some t → args[j]? = some v → Value.okWide Tryz.prog W .any base t v := hval0
  have hW' := hW
  obtain ⟨p, q, hA0, hV, rfl, hfz, hnd⟩ := hW
  have hA : DataW.TrodAll enc Tryz.prog W 0 (fun _ => true) true Tryz.f5.params.toList args.toList ds p := hA0
  rw [Tryz.params5] at hA hval
  obtain ⟨v0, vs0, d0, ds0, p0, q0, hargs, rfl, rfl, h0, r0⟩ := trodAll_cons hA
  obtain ⟨v1, vs1, d1, ds1, p1, q1, rfl, rfl, rfl, h1, r1⟩ := trodAll_cons r0
  obtain ⟨v2, vs2, d2, ds2, p2, q2, rfl, rfl, rfl, h2, r2⟩ := trodAll_cons r1
  obtain ⟨rfl, rfl, rfl⟩ := trodAll_nil r2
  obtain rfl : args = #[v0, v1, v2] := by cases args; simp_all
  obtain ⟨rfl, rfl⟩ := trodVars_none hV
  obtain ⟨a0, len0, cap0, rfl⟩ := okWide_slice Tryz.underlying22 (hval 0 22 v0 rfl rfl)
  have k0 := h0
  have lt0 : ∀ x ∈ p0, x.block < W.heap.size := by obtain ⟨m, hm⟩ := k0; exact DataW.trod_lt m _ _ _ hm
  obtain ⟨z0, w0⟩ : ∃ zs, Nds W (.slice a0 len0 cap0) zs ∧ ∀ n ∈ zs, fitsN n := by
    obtain ⟨fuel, hf⟩ := h0
    exact nds_open (by simpa [Value.cells] using hf)
  obtain ⟨a1, len1, cap1, rfl⟩ := okWide_slice Tryz.underlying22 (hval 1 22 v1 rfl rfl)
  have k1 := h1
  have lt1 : ∀ x ∈ p1, x.block < W.heap.size := by obtain ⟨m, hm⟩ := k1; exact DataW.trod_lt m _ _ _ hm
  obtain ⟨z1, w1⟩ : ∃ zs, Nds W (.slice a1 len1 cap1) zs ∧ ∀ n ∈ zs, fitsN n := by
    obtain ⟨fuel, hf⟩ := h1
    exact nds_open (by simpa [Value.cells] using hf)
  have k2 := h2
  have lt2 : ∀ x ∈ p2, x.block < W.heap.size := by obtain ⟨m, hm⟩ := k2; exact DataW.trod_lt m _ _ _ hm
  obtain ⟨z2, w2⟩ := node_open (hval 2 42 v2 rfl rfl) h2
  clear hA0 hval0
  refine (walk _ z0 _ z1 _ z2 W w0 w1 w2).mono fun e W' ⟨he, bel⟩ => ?_
  subst he
  exact ⟨_, rfl, _, _, _, [], _, [], hW', trodAll_mk1 (shut_bool Tryz.underlying4 _), (trodAll_cons_mk (Below.trod laidOut (by kernel_rfl) (of_decide_eq_true (by kernel_rfl)) k0 bel lt0) (trodAll_cons_mk (Below.trod laidOut (by kernel_rfl) (of_decide_eq_true (by kernel_rfl)) k1 bel lt1) (trodAll_cons_mk (Below.trod laidOut (by kernel_rfl) (of_decide_eq_true (by kernel_rfl)) k2 bel lt2) trodAll_mk0))), rfl, bel.frame _, fun h => by cases h⟩

-- the given statement
theorem proved : Rows.LackLessSaid :=
  OpenClaim.holds_of_wide 5 Tryz.f5 rfl rfl rfl rfl rfl rfl rfl ⟨rfl, rfl, rfl, rfl, rfl⟩ rfl rfl rfl rfl rfl (by kernel_rfl) Tryz.func5 (by kernel_rfl)
    (of_decide_eq_true (by kernel_rfl)) (by unfold Func.isWrapper; first | (rw [if_pos (by decide +kernel)]; kernel_rfl) | (rw [if_neg (by decide +kernel)]; exact ⟨rfl, rfl⟩))
    (fun os started H enc _ => lifted os started H enc)
end Go.Proofs.YtjnkjjlpkgbkiaaGreat.lackLess
