/- Of every rows, every node (no more, and no longer, than are looked at): which rows may be, any ones with a node, and without it, as the document says; no condition. -/
import Derived.Test.YtnngfcjfhhfafaaGreatRows
import Derived.Test.YtnngfcjfhhfafaaGreatTalS
import Derived.Test.YtnngfcjfhhfafaaGreatNodQ
import Derived.Test.YtnngfcjfhhfafaaGreatNodI
import Derived.Test.YtnngfcjfhhfafaaGreatNodS
import Derived.ProofKit
import Derived.OpenShut
import Derived.ShutString
import Derived.ChangeOld
namespace Go.Proofs.YtnngfcjfhhfafaaGreat.tallyChange
open Go.ChangeShapes Go.WideShapes Go.ChangeAt Go.RowKit
open Go.ChangeMaps (open_string shut_string)
set_option maxRecDepth 100000
set_option linter.unusedVariables false

set_option maxRecDepth 100000 in
set_option maxHeartbeats 6400000 in
theorem walk (V : Value) (l0 : List Rw) (Q : Value) (q : Nd) (w : World) (hV : Rws w V l0 ∧ fitsR l0) (hQ : Q = .agg #[.string (mkB q.1), .string (mkB q.2)] ∧ fitsN q) :
    Calls Tryz.prog 3 #[V, Q] w fun e w' => e = .returned (.bool true) ∧ Below w.heap.size w w' := by
  obtain ⟨hV, fV⟩ := hV
  obtain ⟨A, c, rfl, -⟩ := hV.ex
  have hfw := fun V w h => few16_any V l0 w h fV
  have hz := SzR.few l0
  obtain ⟨m0, hm0⟩ : ∃ r, l0.length = r := ⟨_, rfl⟩
  rw [hm0] at hV ⊢
  obtain ⟨l, hl⟩ : ∃ r, fewR l0 = r := ⟨_, rfl⟩
  rw [hl] at hfw hz
  obtain ⟨n, hn⟩ : ∃ r, l.length = r := ⟨_, rfl⟩
  have SV := Lib.hid hV; have HFW := Lib.hid hfw; have HZ := Lib.hid hz; have HN := Lib.hid hn
  clear hV fV hfw hz hm0 hl hn
  obtain ⟨rfl, fq⟩ := hQ
  obtain ⟨pq, vq⟩ := q
  simp only at fq ⊢
  have hsq := oneN_small (pq, vq)
  have hoq := fun w => one_any pq vq w fq.1 fq.2
  obtain ⟨q1, hq1⟩ : ∃ r, fewL pq = r := ⟨_, rfl⟩
  obtain ⟨q2, hq2⟩ : ∃ r, fewL vq = r := ⟨_, rfl⟩
  have hsq2 : smallN (q1, q2) := by rw [← hq1, ← hq2]; exact hsq
  rw [hq1, hq2] at hoq
  obtain ⟨W, gq, hW, hg, r1, hb⟩ := boxT w (.string (mkB pq)) (.string (mkB vq)) 24
  have HSQ := Lib.hid hsq2; have HOQ := Lib.hid hoq; have HLQ := Lib.hid (show w.heap.size ≤ gq by omega); have HW := Lib.hid hW; have HG := Lib.hid hg; have RQ := Lib.hid r1; have BB := Lib.hid hb
  clear hsq hsq2 hoq hq1 hq2 hW hg r1 hb fq
  have e1 : ∀ args w, (callFunc 8 args).run Tryz.prog w = .ok (.enter 8 args) w := enters_of Tryz.func8 (by kernel_rfl) rfl
  have e2 : ∀ args w, (callFunc 9 args).run Tryz.prog w = .ok (.enter 9 args) w := enters_of Tryz.func9 (by kernel_rfl) rfl
  go_enter Tryz.func3, Tryz.ntmps3
  go_upto_region 1 with fail
  rw [HW.out, HG.out]
  refine rol_run (by kernel_rfl) [[], [0], [], [0, 1, 2], [0, 1, 2, 3], [0, 1, 2, 3, 4]] (by kernel_rfl) [10, 11, 12, 13, 0] [[7], [0], [6], [2], [1], [3, 6]] [0, 1, 0, 0, 1, 4, 4, 0] [0, 0, 0, 0, 0, 4] [1000, 1000, 1000, 1000, 1000, 1000, 5, 4] [.val 10 (.slice A m0 c), .mems 11 (rwsG W.heap.size l), .val 12 (.agg #[.string (mkB pq), .string (mkB vq)]), .val 13 (.agg #[.string (mkB q1), .string (mkB q2)]), .mems 0 (rwsG W.heap.size l), .box (gq) (.cells #[.string (mkB q1), .string (mkB q2)] 24), .box (gq) (.cells #[.string (mkB pq), .string (mkB vq)] 24), .val 0 (.slice A m0 c)] (by kernel_rfl) ?_ (w.heap.size) (W.heap.size) rfl BB.out rfl (fun k => if k = gq then 4 else 6) ?_ ?_ ?_
  · intro j hj
    have hj3 : j < 8 := hj
    have hj2 : j = 0 ∨ j = 1 ∨ j = 2 ∨ j = 3 ∨ j = 4 ∨ j = 5 ∨ j = 6 ∨ j = 7 := by omega
    clear hj hj3
    rcases hj2 with rfl | rfl | rfl | rfl | rfl | rfl | rfl | rfl
    · exact trivial
    · exact rwsG_near
    · exact trivial
    · exact trivial
    · exact rwsG_near
    · exact trivial
    · exact trivial
    · exact trivial
  · intro j hj0 hj
    have hj1 : 6 ≤ j := hj0
    have hj3 : j < 8 := hj
    have hj2 : j = 6 ∨ j = 7 := by omega
    clear hj0 hj hj1 hj3
    rcases hj2 with rfl | rfl
    · exact ⟨RQ.out, if_pos rfl⟩
    · exact rfl
  · intro i hi a wx who hG hF
    have hz : a.tmps.size = 118 := hG.size
    have hi3 : i < 6 := hi
    have hi2 : i = 0 ∨ i = 1 ∨ i = 2 ∨ i = 3 ∨ i = 4 ∨ i = 5 := by omega
    clear hi hi3
    rcases hi2 with rfl | rfl | rfl | rfl | rfl | rfl
    · exact rol_val rfl rfl rfl (by rw [hz]; decide) (ex_move (Or.inl rfl) (eval_slot (hF 7 (by decide)))) hG.below
    · refine rol_calls rfl rfl rfl (by rw [hz]; decide) (ex_call rfl (by simp [eval_slot (hF 0 (by decide))]) e1) (HFW.out _ wx (SV.out.below hG.below)) ?_ hG.below (Nat.le_trans BB.out.size hG.new)
      rintro e w1 ⟨u, rfl, hso, hb1⟩
      obtain ⟨bs, hbs, hg⟩ := hso.toG hG.new
      exact ⟨u, rfl, hb1, .inr (.inr ⟨_, bs, rfl, hbs, hg⟩)⟩
    · exact rol_val rfl rfl rfl (by rw [hz]; decide) (ex_load rfl (eval_slot ((hG.slots 3 (by decide)).trans rfl)) (ld_node (row2 (hF 6 (by decide)).1).1 (row2 (hF 6 (by decide)).1).2.1)) hG.below
    · refine rol_calls rfl rfl rfl (by rw [hz]; decide) (ex_call rfl (by simp [eval_slot (hF 2 (by decide))]) e2) (HOQ.out wx) ?_ hG.below (Nat.le_trans BB.out.size hG.new)
      rintro e w1 ⟨rfl, hb1⟩
      exact ⟨_, rfl, hb1, .inl rfl⟩
    · exact rol_moves rfl rfl rfl (by rw [hz]; decide) (Or.inr rfl) (hF 1 (by decide)) hG.below
    · exact rol_box_ndT rfl rfl rfl rfl (eval_slot ((hG.slots 3 (by decide)).trans rfl)) (eval_slot (hF 3 (by decide))) (hF 6 (by decide)) hG.below HLQ.out
  · intro a wx who hG hF
    obtain ⟨v0, bs0, fv0, fo0, fp0⟩ := hF 4 (of_decide_eq_true (by kernel_rfl)) (of_decide_eq_true (by kernel_rfl))
    replace fv0 : a.tmps.getD 0 undef = v0 := eval_slot (s := 0) fv0
    have hbq := hF 5 (of_decide_eq_true (by kernel_rfl)) (of_decide_eq_true (by kernel_rfl))
    have hbx := hG.below
    have hnx := hG.new
    rw [hG.frame]
    simp only [List.foldl_cons, List.foldl_nil, List.setIfInBounds_toArray, List.set_cons_zero, List.set_cons_succ]
    generalize a.tmps.getD 10 undef = u10
    generalize a.tmps.getD 11 undef = u11
    generalize a.tmps.getD 12 undef = u12
    generalize a.tmps.getD 13 undef = u13
    rw [fv0]
    clear hF hG fv0
    obtain ⟨aL, cL, rfl, hd⟩ := fp0.own.slice HN.out
    obtain ⟨qx0, qx1, -, -⟩ := row2 hbq.1
    have SL := Lib.hid hd
    replace BB := Lib.hid hbx
    clear fo0 fp0 hbq hd hbx hnx SV RQ HFW HOQ HW HG HLQ e1 e2
    have kadd := fun V w h => tadd_any V l q1 q2 w h (Nat.le_trans HZ.out.len (by decide)) (HZ.out.versK (by decide)) HZ.out.path HZ.out.text HSQ.out.1 HSQ.out.2
    have kdrop := fun V w h => tdrop_any V l q1 q2 w h (Nat.le_trans HZ.out.len (by decide)) (HZ.out.versK (by decide)) HZ.out.path HZ.out.text HSQ.out.1 HSQ.out.2
    obtain ⟨PA, hA⟩ : ∃ r, addE l (q1, q2) = r := ⟨_, rfl⟩
    obtain ⟨PD, hD⟩ : ∃ r, dropE l (q1, q2) = r := ⟨_, rfl⟩
    rw [hA] at kadd
    rw [hD] at kdrop
    obtain ⟨la, ka⟩ := PA
    obtain ⟨ld, kd⟩ := PD
    simp only at kadd kdrop
    obtain ⟨na, hna⟩ : ∃ r, la.length = r := ⟨_, rfl⟩
    obtain ⟨nd, hnd⟩ : ∃ r, ld.length = r := ⟨_, rfl⟩
    have KADD := Lib.hid kadd; have KDROP := Lib.hid kdrop; have HA := Lib.hid hA; have HD := Lib.hid hD; have HNA := Lib.hid hna; have HND := Lib.hid hnd
    have kch := fun V w h => tcheck_any V l w h (Nat.le_trans HZ.out.len (by decide)) HZ.out.path HZ.out.text
    have kmay := fun V w h => refmay_any16 V l w h (Nat.le_trans HZ.out.len (by decide)) (HZ.out.versK (by decide)) HZ.out.path HZ.out.text
    have kmn := fun w => refnmay_any q1 q2 w HSQ.out.1 HSQ.out.2
    clear kadd kdrop hA hD hna hnd
    go_upto_region 3 with (go_at_call 10; refine (KADD.out _ _ SL.out).mono ?_; rintro e w9 ⟨v1, rfl, hr1, hb1⟩; replace qx0 := cell_keep qx0 hb1; replace qx1 := cell_keep qx1 hb1; replace SL := Lib.hid (SL.out.below hb1); replace BB := Lib.hid (below_step BB.out hb1); obtain ⟨aA, cA, rfl, hd⟩ := hr1.slice HNA.out; have SA := Lib.hid hd; clear hr1 hd hb1 KADD)
    go_upto_region 4 with (go_at_call 11; refine (KDROP.out _ _ SL.out).mono ?_; rintro e w9 ⟨v1, rfl, hr1, hb1⟩; replace qx0 := cell_keep qx0 hb1; replace qx1 := cell_keep qx1 hb1; replace SL := Lib.hid (SL.out.below hb1); replace SA := Lib.hid (SA.out.below hb1); replace BB := Lib.hid (below_step BB.out hb1); obtain ⟨aD, cD, rfl, hd⟩ := hr1.slice HND.out; have SD := Lib.hid hd; clear hr1 hd hb1 KDROP)
    cases ho : okR l
    · have hno : (okR l && okN (q1, q2)) = false := by rw [ho]; rfl
      rw [ho] at kmay
      rw [ho, if_neg (by decide)] at kch
      clear ho
      have h1 := HA.out
      have h2 := HD.out
      rw [addE_no hno] at h1
      rw [dropE_no hno] at h2
      obtain ⟨rfl, rfl⟩ := Prod.mk.inj h1
      obtain ⟨rfl, rfl⟩ := Prod.mk.inj h2
      clear h1 h2 hno HA HD
      have KCH := Lib.hid kch; have KMAY := Lib.hid kmay; have KMN := Lib.hid kmn
      clear kch kmay kmn
      go_wp2_with (first
          | (go_at_call 12; refine (KCH.out _ _ SL.out).mono ?_; rintro e w9 ⟨rfl, hb1⟩; replace qx0 := cell_keep qx0 hb1; replace qx1 := cell_keep qx1 hb1; replace SL := Lib.hid (SL.out.below hb1); replace SA := Lib.hid (SA.out.below hb1); replace SD := Lib.hid (SD.out.below hb1); replace BB := Lib.hid (below_step BB.out hb1); clear hb1)
          | (go_at_call 13; refine (KMAY.out _ _ SL.out).mono ?_; rintro e w9 ⟨rfl, hb1⟩; replace qx0 := cell_keep qx0 hb1; replace qx1 := cell_keep qx1 hb1; replace SL := Lib.hid (SL.out.below hb1); replace SA := Lib.hid (SA.out.below hb1); replace SD := Lib.hid (SD.out.below hb1); replace BB := Lib.hid (below_step BB.out hb1); clear hb1)
          | (go_at_call 16; refine (KMN.out _).mono ?_; rintro e w9 ⟨rfl, hb1⟩; replace qx0 := cell_keep qx0 hb1; replace qx1 := cell_keep qx1 hb1; replace SL := Lib.hid (SL.out.below hb1); replace SA := Lib.hid (SA.out.below hb1); replace SD := Lib.hid (SD.out.below hb1); replace BB := Lib.hid (below_step BB.out hb1); clear hb1)
          | (go_at_call 14; refine (tsame_any _ _ _ _ _ (by first | exact SL.out | exact SA.out | exact SD.out) (by first | exact SL.out | exact SA.out | exact SD.out)).mono ?_; rintro e w9 ⟨rfl, hb1⟩; (first | rw [dec_rows]); replace qx0 := cell_keep qx0 hb1; replace qx1 := cell_keep qx1 hb1; replace SL := Lib.hid (SL.out.below hb1); replace SA := Lib.hid (SA.out.below hb1); replace SD := Lib.hid (SD.out.below hb1); replace BB := Lib.hid (below_step BB.out hb1); clear hb1)
          | (go_at_call 15; refine (refsame16_any _ _ _ _ _ (by first | exact SL.out | exact SA.out | exact SD.out) (by first | exact SL.out | exact SA.out | exact SD.out)).mono ?_; rintro e w9 ⟨rfl, hb1⟩; (first | rw [dec_rows]); replace qx0 := cell_keep qx0 hb1; replace qx1 := cell_keep qx1 hb1; replace SL := Lib.hid (SL.out.below hb1); replace SA := Lib.hid (SA.out.below hb1); replace SD := Lib.hid (SD.out.below hb1); replace BB := Lib.hid (below_step BB.out hb1); clear hb1)
          | (go_at_call 17; refine (tawake_any _).mono ?_; rintro e w9 ⟨rfl, hb1⟩; replace qx0 := cell_keep qx0 hb1; replace qx1 := cell_keep qx1 hb1; replace SL := Lib.hid (SL.out.below hb1); replace SA := Lib.hid (SA.out.below hb1); replace SD := Lib.hid (SD.out.below hb1); replace BB := Lib.hid (below_step BB.out hb1); clear hb1))
      go_ret
      exact ⟨rfl, BB.out⟩
    · rw [ho] at kmay
      rw [ho, if_pos rfl] at kch
      cases hk : okN (q1, q2)
      · have hno : (okR l && okN (q1, q2)) = false := by rw [ho, hk]; rfl
        rw [hk] at kmn
        clear ho hk
        have h1 := HA.out
        have h2 := HD.out
        rw [addE_no hno] at h1
        rw [dropE_no hno] at h2
        obtain ⟨rfl, rfl⟩ := Prod.mk.inj h1
        obtain ⟨rfl, rfl⟩ := Prod.mk.inj h2
        clear h1 h2 hno HA HD
        have KCH := Lib.hid kch; have KMAY := Lib.hid kmay; have KMN := Lib.hid kmn
        clear kch kmay kmn
        go_wp2_with (first
            | (go_at_call 12; refine (KCH.out _ _ SL.out).mono ?_; rintro e w9 ⟨rfl, hb1⟩; replace qx0 := cell_keep qx0 hb1; replace qx1 := cell_keep qx1 hb1; replace SL := Lib.hid (SL.out.below hb1); replace SA := Lib.hid (SA.out.below hb1); replace SD := Lib.hid (SD.out.below hb1); replace BB := Lib.hid (below_step BB.out hb1); clear hb1)
            | (go_at_call 13; refine (KMAY.out _ _ SL.out).mono ?_; rintro e w9 ⟨rfl, hb1⟩; replace qx0 := cell_keep qx0 hb1; replace qx1 := cell_keep qx1 hb1; replace SL := Lib.hid (SL.out.below hb1); replace SA := Lib.hid (SA.out.below hb1); replace SD := Lib.hid (SD.out.below hb1); replace BB := Lib.hid (below_step BB.out hb1); clear hb1)
            | (go_at_call 16; refine (KMN.out _).mono ?_; rintro e w9 ⟨rfl, hb1⟩; replace qx0 := cell_keep qx0 hb1; replace qx1 := cell_keep qx1 hb1; replace SL := Lib.hid (SL.out.below hb1); replace SA := Lib.hid (SA.out.below hb1); replace SD := Lib.hid (SD.out.below hb1); replace BB := Lib.hid (below_step BB.out hb1); clear hb1)
            | (go_at_call 14; refine (tsame_any _ _ _ _ _ (by first | exact SL.out | exact SA.out | exact SD.out) (by first | exact SL.out | exact SA.out | exact SD.out)).mono ?_; rintro e w9 ⟨rfl, hb1⟩; (first | rw [dec_rows]); replace qx0 := cell_keep qx0 hb1; replace qx1 := cell_keep qx1 hb1; replace SL := Lib.hid (SL.out.below hb1); replace SA := Lib.hid (SA.out.below hb1); replace SD := Lib.hid (SD.out.below hb1); replace BB := Lib.hid (below_step BB.out hb1); clear hb1)
            | (go_at_call 15; refine (refsame16_any _ _ _ _ _ (by first | exact SL.out | exact SA.out | exact SD.out) (by first | exact SL.out | exact SA.out | exact SD.out)).mono ?_; rintro e w9 ⟨rfl, hb1⟩; (first | rw [dec_rows]); replace qx0 := cell_keep qx0 hb1; replace qx1 := cell_keep qx1 hb1; replace SL := Lib.hid (SL.out.below hb1); replace SA := Lib.hid (SA.out.below hb1); replace SD := Lib.hid (SD.out.below hb1); replace BB := Lib.hid (below_step BB.out hb1); clear hb1)
            | (go_at_call 17; refine (tawake_any _).mono ?_; rintro e w9 ⟨rfl, hb1⟩; replace qx0 := cell_keep qx0 hb1; replace qx1 := cell_keep qx1 hb1; replace SL := Lib.hid (SL.out.below hb1); replace SA := Lib.hid (SA.out.below hb1); replace SD := Lib.hid (SD.out.below hb1); replace BB := Lib.hid (below_step BB.out hb1); clear hb1))
        go_ret
        exact ⟨rfl, BB.out⟩
      · rw [hk] at kmn
        have h1 := HA.out
        have h2 := HD.out
        have kall := fun V w h => refall_any16 V l w h (Nat.le_trans HZ.out.len (by decide)) (HZ.out.versK (by decide))
        have hsn := HZ.out.nds
        have hon := all_okN ho
        have hsl : (rwAll l).length ≤ 144 := HZ.out.many
        have khas := fun V w h => refnhas_any V (rwAll l) q1 q2 w h
        cases hh : hasN (rwAll l) (q1, q2)
        · have hne := with_ne ho hk hh
          rw [addE_yes ho hk hh] at h1
          rw [dropE_none ho hk hh] at h2
          obtain ⟨rfl, rfl⟩ := Prod.mk.inj h1
          obtain ⟨rfl, rfl⟩ := Prod.mk.inj h2
          rw [hh] at khas
          obtain ⟨s, hs⟩ : ∃ r, rwAll l = r := ⟨_, rfl⟩
          rw [hs] at kall khas hsn hon hsl HNA SA hne
          have kwi := fun U w h => refnwith_any U s q1 q2 w h hsn hon HSQ.out.1 HSQ.out.2 hk (by omega)
          have hml := withN_len1 s (q1, q2)
          obtain ⟨M, hM⟩ : ∃ r, withN s (q1, q2) = r := ⟨_, rfl⟩
          rw [hM] at kwi HNA hml SA hne
          have kof := fun V w h => refof_any16 V M w h (by omega)
          obtain ⟨O, hO⟩ : ∃ r, rwOf M = r := ⟨_, rfl⟩
          rw [hO] at kof HNA SA hne
          have HNE := Lib.hid (decide_eq_false hne)
          obtain ⟨ns, hns⟩ : ∃ r, s.length = r := ⟨_, rfl⟩
          obtain ⟨nm, hnm⟩ : ∃ r, M.length = r := ⟨_, rfl⟩
          have HNS := Lib.hid hns; have HNM := Lib.hid hnm; have KALL := Lib.hid kall; have KHAS := Lib.hid khas; have KWI := Lib.hid kwi; have KOF := Lib.hid kof
          clear h1 h2 hh hk ho hs hsn hon hsl hml hM hO hns hnm kall khas kwi kof hne HA HD
          have KCH := Lib.hid kch; have KMAY := Lib.hid kmay; have KMN := Lib.hid kmn
          clear kch kmay kmn
          go_upto_region 9 with (first
              | (go_at_call 12; refine (KCH.out _ _ SL.out).mono ?_; rintro e w9 ⟨rfl, hb1⟩; replace qx0 := cell_keep qx0 hb1; replace qx1 := cell_keep qx1 hb1; replace SL := Lib.hid (SL.out.below hb1); replace SA := Lib.hid (SA.out.below hb1); replace SD := Lib.hid (SD.out.below hb1); replace BB := Lib.hid (below_step BB.out hb1); clear hb1)
              | (go_at_call 13; refine (KMAY.out _ _ SL.out).mono ?_; rintro e w9 ⟨rfl, hb1⟩; replace qx0 := cell_keep qx0 hb1; replace qx1 := cell_keep qx1 hb1; replace SL := Lib.hid (SL.out.below hb1); replace SA := Lib.hid (SA.out.below hb1); replace SD := Lib.hid (SD.out.below hb1); replace BB := Lib.hid (below_step BB.out hb1); clear hb1)
              | (go_at_call 16; refine (KMN.out _).mono ?_; rintro e w9 ⟨rfl, hb1⟩; replace qx0 := cell_keep qx0 hb1; replace qx1 := cell_keep qx1 hb1; replace SL := Lib.hid (SL.out.below hb1); replace SA := Lib.hid (SA.out.below hb1); replace SD := Lib.hid (SD.out.below hb1); replace BB := Lib.hid (below_step BB.out hb1); clear hb1)
              | (go_at_call 14; refine (tsame_any _ _ _ _ _ (by first | exact SL.out | exact SA.out | exact SD.out) (by first | exact SL.out | exact SA.out | exact SD.out)).mono ?_; rintro e w9 ⟨rfl, hb1⟩; (first | rw [HNE.out] | rw [dec_rows]); replace qx0 := cell_keep qx0 hb1; replace qx1 := cell_keep qx1 hb1; replace SL := Lib.hid (SL.out.below hb1); replace SA := Lib.hid (SA.out.below hb1); replace SD := Lib.hid (SD.out.below hb1); replace BB := Lib.hid (below_step BB.out hb1); clear hb1)
              | (go_at_call 15; refine (refsame16_any _ _ _ _ _ (by first | exact SL.out | exact SA.out | exact SD.out) (by first | exact SL.out | exact SA.out | exact SD.out)).mono ?_; rintro e w9 ⟨rfl, hb1⟩; (first | rw [HNE.out] | rw [dec_rows]); replace qx0 := cell_keep qx0 hb1; replace qx1 := cell_keep qx1 hb1; replace SL := Lib.hid (SL.out.below hb1); replace SA := Lib.hid (SA.out.below hb1); replace SD := Lib.hid (SD.out.below hb1); replace BB := Lib.hid (below_step BB.out hb1); clear hb1)
              | (go_at_call 17; refine (tawake_any _).mono ?_; rintro e w9 ⟨rfl, hb1⟩; replace qx0 := cell_keep qx0 hb1; replace qx1 := cell_keep qx1 hb1; replace SL := Lib.hid (SL.out.below hb1); replace SA := Lib.hid (SA.out.below hb1); replace SD := Lib.hid (SD.out.below hb1); replace BB := Lib.hid (below_step BB.out hb1); clear hb1)
              | (go_at_call 18; refine (KALL.out _ _ SL.out).mono ?_; rintro e w9 ⟨v1, rfl, hr1, hb1⟩; replace qx0 := cell_keep qx0 hb1; replace qx1 := cell_keep qx1 hb1; replace SL := Lib.hid (SL.out.below hb1); replace SA := Lib.hid (SA.out.below hb1); replace SD := Lib.hid (SD.out.below hb1); replace BB := Lib.hid (below_step BB.out hb1); obtain ⟨aS, cS, rfl, hd⟩ := ndsO hr1; rw [HNS.out] at hd ⊢; have SS := Lib.hid hd; clear hr1 hd hb1 KALL))
          go_upto_region 10 with (go_at_call 19; refine (KHAS.out _ _ SS.out).mono ?_; rintro e w9 ⟨rfl, hb1⟩; replace qx0 := cell_keep qx0 hb1; replace qx1 := cell_keep qx1 hb1; replace SL := Lib.hid (SL.out.below hb1); replace SA := Lib.hid (SA.out.below hb1); replace SD := Lib.hid (SD.out.below hb1); replace SS := Lib.hid (SS.out.below hb1); replace BB := Lib.hid (below_step BB.out hb1); clear hb1)
          go_wp2_with (first
              | (go_at_call 22; refine (KWI.out _ _ SS.out).mono ?_; rintro e w9 ⟨aM, cM, rfl, hd, hb1⟩; replace qx0 := cell_keep qx0 hb1; replace qx1 := cell_keep qx1 hb1; replace SL := Lib.hid (SL.out.below hb1); replace SA := Lib.hid (SA.out.below hb1); replace SD := Lib.hid (SD.out.below hb1); replace SS := Lib.hid (SS.out.below hb1); replace BB := Lib.hid (below_step BB.out hb1); rw [HNM.out] at hd ⊢; have SM := Lib.hid hd; clear hd hb1 KWI)
              | (go_at_call 20; refine (KOF.out _ _ SM.out).mono ?_; rintro e w9 ⟨v1, rfl, hr1, hb1⟩; replace qx0 := cell_keep qx0 hb1; replace qx1 := cell_keep qx1 hb1; replace SL := Lib.hid (SL.out.below hb1); replace SA := Lib.hid (SA.out.below hb1); replace SD := Lib.hid (SD.out.below hb1); replace SS := Lib.hid (SS.out.below hb1); replace SM := Lib.hid (SM.out.below hb1); replace BB := Lib.hid (below_step BB.out hb1); obtain ⟨aO, cO, rfl, hd⟩ := hr1.slice HNA.out; have SO := Lib.hid hd; clear hr1 hd hb1 KOF)
              | (go_at_call 12; refine (KCH.out _ _ SL.out).mono ?_; rintro e w9 ⟨rfl, hb1⟩; replace qx0 := cell_keep qx0 hb1; replace qx1 := cell_keep qx1 hb1; replace SL := Lib.hid (SL.out.below hb1); replace SA := Lib.hid (SA.out.below hb1); replace SD := Lib.hid (SD.out.below hb1); replace SS := Lib.hid (SS.out.below hb1); replace SM := Lib.hid (SM.out.below hb1); replace SO := Lib.hid (SO.out.below hb1); replace BB := Lib.hid (below_step BB.out hb1); clear hb1)
              | (go_at_call 13; refine (KMAY.out _ _ SL.out).mono ?_; rintro e w9 ⟨rfl, hb1⟩; replace qx0 := cell_keep qx0 hb1; replace qx1 := cell_keep qx1 hb1; replace SL := Lib.hid (SL.out.below hb1); replace SA := Lib.hid (SA.out.below hb1); replace SD := Lib.hid (SD.out.below hb1); replace SS := Lib.hid (SS.out.below hb1); replace SM := Lib.hid (SM.out.below hb1); replace SO := Lib.hid (SO.out.below hb1); replace BB := Lib.hid (below_step BB.out hb1); clear hb1)
              | (go_at_call 16; refine (KMN.out _).mono ?_; rintro e w9 ⟨rfl, hb1⟩; replace qx0 := cell_keep qx0 hb1; replace qx1 := cell_keep qx1 hb1; replace SL := Lib.hid (SL.out.below hb1); replace SA := Lib.hid (SA.out.below hb1); replace SD := Lib.hid (SD.out.below hb1); replace SS := Lib.hid (SS.out.below hb1); replace SM := Lib.hid (SM.out.below hb1); replace SO := Lib.hid (SO.out.below hb1); replace BB := Lib.hid (below_step BB.out hb1); clear hb1)
              | (go_at_call 14; refine (tsame_any _ _ _ _ _ (by first | exact SL.out | exact SA.out | exact SD.out | exact SS.out | exact SM.out | exact SO.out) (by first | exact SL.out | exact SA.out | exact SD.out | exact SS.out | exact SM.out | exact SO.out)).mono ?_; rintro e w9 ⟨rfl, hb1⟩; (first | rw [HNE.out] | rw [dec_rows]); replace qx0 := cell_keep qx0 hb1; replace qx1 := cell_keep qx1 hb1; replace SL := Lib.hid (SL.out.below hb1); replace SA := Lib.hid (SA.out.below hb1); replace SD := Lib.hid (SD.out.below hb1); replace SS := Lib.hid (SS.out.below hb1); replace SM := Lib.hid (SM.out.below hb1); replace SO := Lib.hid (SO.out.below hb1); replace BB := Lib.hid (below_step BB.out hb1); clear hb1)
              | (go_at_call 15; refine (refsame16_any _ _ _ _ _ (by first | exact SL.out | exact SA.out | exact SD.out | exact SS.out | exact SM.out | exact SO.out) (by first | exact SL.out | exact SA.out | exact SD.out | exact SS.out | exact SM.out | exact SO.out)).mono ?_; rintro e w9 ⟨rfl, hb1⟩; (first | rw [HNE.out] | rw [dec_rows]); replace qx0 := cell_keep qx0 hb1; replace qx1 := cell_keep qx1 hb1; replace SL := Lib.hid (SL.out.below hb1); replace SA := Lib.hid (SA.out.below hb1); replace SD := Lib.hid (SD.out.below hb1); replace SS := Lib.hid (SS.out.below hb1); replace SM := Lib.hid (SM.out.below hb1); replace SO := Lib.hid (SO.out.below hb1); replace BB := Lib.hid (below_step BB.out hb1); clear hb1)
              | (go_at_call 17; refine (tawake_any _).mono ?_; rintro e w9 ⟨rfl, hb1⟩; replace qx0 := cell_keep qx0 hb1; replace qx1 := cell_keep qx1 hb1; replace SL := Lib.hid (SL.out.below hb1); replace SA := Lib.hid (SA.out.below hb1); replace SD := Lib.hid (SD.out.below hb1); replace SS := Lib.hid (SS.out.below hb1); replace SM := Lib.hid (SM.out.below hb1); replace SO := Lib.hid (SO.out.below hb1); replace BB := Lib.hid (below_step BB.out hb1); clear hb1))
          go_ret
          exact ⟨rfl, BB.out⟩
        · rw [addE_has ho hk hh] at h1
          rw [dropE_yes ho hk hh] at h2
          obtain ⟨rfl, rfl⟩ := Prod.mk.inj h1
          obtain ⟨rfl, rfl⟩ := Prod.mk.inj h2
          rw [hh] at khas
          obtain ⟨s, hs⟩ : ∃ r, rwAll l = r := ⟨_, rfl⟩
          rw [hs] at kall khas hsn hon hsl HND SD
          have kmi := fun U V w h h' => refnminus_any U V s [(q1, q2)] w h h' (by omega)
          have hml := minusN_len s [(q1, q2)]
          obtain ⟨M, hM⟩ : ∃ r, minusN s [(q1, q2)] = r := ⟨_, rfl⟩
          rw [hM] at kmi HND hml SD
          have kof := fun V w h => refof_any16 V M w h (by omega)
          obtain ⟨O, hO⟩ : ∃ r, rwOf M = r := ⟨_, rfl⟩
          rw [hO] at kof HND SD
          obtain ⟨ns, hns⟩ : ∃ r, s.length = r := ⟨_, rfl⟩
          obtain ⟨nm, hnm⟩ : ∃ r, M.length = r := ⟨_, rfl⟩
          have HNS := Lib.hid hns; have HNM := Lib.hid hnm; have KALL := Lib.hid kall; have KHAS := Lib.hid khas; have KMI := Lib.hid kmi; have KOF := Lib.hid kof
          clear h1 h2 hh hk ho hs hsn hon hsl hml hM hO hns hnm kall khas kmi kof HA HD
          have KCH := Lib.hid kch; have KMAY := Lib.hid kmay; have KMN := Lib.hid kmn
          clear kch kmay kmn
          go_upto_region 9 with (first
              | (go_at_call 12; refine (KCH.out _ _ SL.out).mono ?_; rintro e w9 ⟨rfl, hb1⟩; replace qx0 := cell_keep qx0 hb1; replace qx1 := cell_keep qx1 hb1; replace SL := Lib.hid (SL.out.below hb1); replace SA := Lib.hid (SA.out.below hb1); replace SD := Lib.hid (SD.out.below hb1); replace BB := Lib.hid (below_step BB.out hb1); clear hb1)
              | (go_at_call 13; refine (KMAY.out _ _ SL.out).mono ?_; rintro e w9 ⟨rfl, hb1⟩; replace qx0 := cell_keep qx0 hb1; replace qx1 := cell_keep qx1 hb1; replace SL := Lib.hid (SL.out.below hb1); replace SA := Lib.hid (SA.out.below hb1); replace SD := Lib.hid (SD.out.below hb1); replace BB := Lib.hid (below_step BB.out hb1); clear hb1)
              | (go_at_call 16; refine (KMN.out _).mono ?_; rintro e w9 ⟨rfl, hb1⟩; replace qx0 := cell_keep qx0 hb1; replace qx1 := cell_keep qx1 hb1; replace SL := Lib.hid (SL.out.below hb1); replace SA := Lib.hid (SA.out.below hb1); replace SD := Lib.hid (SD.out.below hb1); replace BB := Lib.hid (below_step BB.out hb1); clear hb1)
              | (go_at_call 14; refine (tsame_any _ _ _ _ _ (by first | exact SL.out | exact SA.out | exact SD.out) (by first | exact SL.out | exact SA.out | exact SD.out)).mono ?_; rintro e w9 ⟨rfl, hb1⟩; (first | rw [dec_rows]); replace qx0 := cell_keep qx0 hb1; replace qx1 := cell_keep qx1 hb1; replace SL := Lib.hid (SL.out.below hb1); replace SA := Lib.hid (SA.out.below hb1); replace SD := Lib.hid (SD.out.below hb1); replace BB := Lib.hid (below_step BB.out hb1); clear hb1)
              | (go_at_call 15; refine (refsame16_any _ _ _ _ _ (by first | exact SL.out | exact SA.out | exact SD.out) (by first | exact SL.out | exact SA.out | exact SD.out)).mono ?_; rintro e w9 ⟨rfl, hb1⟩; (first | rw [dec_rows]); replace qx0 := cell_keep qx0 hb1; replace qx1 := cell_keep qx1 hb1; replace SL := Lib.hid (SL.out.below hb1); replace SA := Lib.hid (SA.out.below hb1); replace SD := Lib.hid (SD.out.below hb1); replace BB := Lib.hid (below_step BB.out hb1); clear hb1)
              | (go_at_call 17; refine (tawake_any _).mono ?_; rintro e w9 ⟨rfl, hb1⟩; replace qx0 := cell_keep qx0 hb1; replace qx1 := cell_keep qx1 hb1; replace SL := Lib.hid (SL.out.below hb1); replace SA := Lib.hid (SA.out.below hb1); replace SD := Lib.hid (SD.out.below hb1); replace BB := Lib.hid (below_step BB.out hb1); clear hb1)
              | (go_at_call 18; refine (KALL.out _ _ SL.out).mono ?_; rintro e w9 ⟨v1, rfl, hr1, hb1⟩; replace qx0 := cell_keep qx0 hb1; replace qx1 := cell_keep qx1 hb1; replace SL := Lib.hid (SL.out.below hb1); replace SA := Lib.hid (SA.out.below hb1); replace SD := Lib.hid (SD.out.below hb1); replace BB := Lib.hid (below_step BB.out hb1); obtain ⟨aS, cS, rfl, hd⟩ := ndsO hr1; rw [HNS.out] at hd ⊢; have SS := Lib.hid hd; clear hr1 hd hb1 KALL))
          go_upto_region 10 with (go_at_call 19; refine (KHAS.out _ _ SS.out).mono ?_; rintro e w9 ⟨rfl, hb1⟩; replace qx0 := cell_keep qx0 hb1; replace qx1 := cell_keep qx1 hb1; replace SL := Lib.hid (SL.out.below hb1); replace SA := Lib.hid (SA.out.below hb1); replace SD := Lib.hid (SD.out.below hb1); replace SS := Lib.hid (SS.out.below hb1); replace BB := Lib.hid (below_step BB.out hb1); clear hb1)
          go_wp2_with (first
              | (go_at_call 21; refine (KMI.out _ _ _ (SS.out.below ((Below.refl _ _).alloc (Nat.le_refl _) _)) (nds_one _ q1 q2)).mono ?_; rintro e w9 ⟨aM, cM, rfl, hd, hb1⟩; replace hb1 := below_step ((Below.refl _ _).alloc (Nat.le_refl _) _) hb1; replace qx0 := cell_keep qx0 hb1; replace qx1 := cell_keep qx1 hb1; replace SL := Lib.hid (SL.out.below hb1); replace SA := Lib.hid (SA.out.below hb1); replace SD := Lib.hid (SD.out.below hb1); replace SS := Lib.hid (SS.out.below hb1); replace BB := Lib.hid (below_step BB.out hb1); rw [HNM.out] at hd ⊢; have SM := Lib.hid hd; clear hd hb1 KMI)
              | (go_at_call 20; refine (KOF.out _ _ SM.out).mono ?_; rintro e w9 ⟨v1, rfl, hr1, hb1⟩; replace qx0 := cell_keep qx0 hb1; replace qx1 := cell_keep qx1 hb1; replace SL := Lib.hid (SL.out.below hb1); replace SA := Lib.hid (SA.out.below hb1); replace SD := Lib.hid (SD.out.below hb1); replace SS := Lib.hid (SS.out.below hb1); replace SM := Lib.hid (SM.out.below hb1); replace BB := Lib.hid (below_step BB.out hb1); obtain ⟨aO, cO, rfl, hd⟩ := hr1.slice HND.out; have SO := Lib.hid hd; clear hr1 hd hb1 KOF)
              | (go_at_call 12; refine (KCH.out _ _ SL.out).mono ?_; rintro e w9 ⟨rfl, hb1⟩; replace qx0 := cell_keep qx0 hb1; replace qx1 := cell_keep qx1 hb1; replace SL := Lib.hid (SL.out.below hb1); replace SA := Lib.hid (SA.out.below hb1); replace SD := Lib.hid (SD.out.below hb1); replace SS := Lib.hid (SS.out.below hb1); replace SM := Lib.hid (SM.out.below hb1); replace SO := Lib.hid (SO.out.below hb1); replace BB := Lib.hid (below_step BB.out hb1); clear hb1)
              | (go_at_call 13; refine (KMAY.out _ _ SL.out).mono ?_; rintro e w9 ⟨rfl, hb1⟩; replace qx0 := cell_keep qx0 hb1; replace qx1 := cell_keep qx1 hb1; replace SL := Lib.hid (SL.out.below hb1); replace SA := Lib.hid (SA.out.below hb1); replace SD := Lib.hid (SD.out.below hb1); replace SS := Lib.hid (SS.out.below hb1); replace SM := Lib.hid (SM.out.below hb1); replace SO := Lib.hid (SO.out.below hb1); replace BB := Lib.hid (below_step BB.out hb1); clear hb1)
              | (go_at_call 16; refine (KMN.out _).mono ?_; rintro e w9 ⟨rfl, hb1⟩; replace qx0 := cell_keep qx0 hb1; replace qx1 := cell_keep qx1 hb1; replace SL := Lib.hid (SL.out.below hb1); replace SA := Lib.hid (SA.out.below hb1); replace SD := Lib.hid (SD.out.below hb1); replace SS := Lib.hid (SS.out.below hb1); replace SM := Lib.hid (SM.out.below hb1); replace SO := Lib.hid (SO.out.below hb1); replace BB := Lib.hid (below_step BB.out hb1); clear hb1)
              | (go_at_call 14; refine (tsame_any _ _ _ _ _ (by first | exact SL.out | exact SA.out | exact SD.out | exact SS.out | exact SM.out | exact SO.out) (by first | exact SL.out | exact SA.out | exact SD.out | exact SS.out | exact SM.out | exact SO.out)).mono ?_; rintro e w9 ⟨rfl, hb1⟩; (first | rw [dec_rows]); replace qx0 := cell_keep qx0 hb1; replace qx1 := cell_keep qx1 hb1; replace SL := Lib.hid (SL.out.below hb1); replace SA := Lib.hid (SA.out.below hb1); replace SD := Lib.hid (SD.out.below hb1); replace SS := Lib.hid (SS.out.below hb1); replace SM := Lib.hid (SM.out.below hb1); replace SO := Lib.hid (SO.out.below hb1); replace BB := Lib.hid (below_step BB.out hb1); clear hb1)
              | (go_at_call 15; refine (refsame16_any _ _ _ _ _ (by first | exact SL.out | exact SA.out | exact SD.out | exact SS.out | exact SM.out | exact SO.out) (by first | exact SL.out | exact SA.out | exact SD.out | exact SS.out | exact SM.out | exact SO.out)).mono ?_; rintro e w9 ⟨rfl, hb1⟩; (first | rw [dec_rows]); replace qx0 := cell_keep qx0 hb1; replace qx1 := cell_keep qx1 hb1; replace SL := Lib.hid (SL.out.below hb1); replace SA := Lib.hid (SA.out.below hb1); replace SD := Lib.hid (SD.out.below hb1); replace SS := Lib.hid (SS.out.below hb1); replace SM := Lib.hid (SM.out.below hb1); replace SO := Lib.hid (SO.out.below hb1); replace BB := Lib.hid (below_step BB.out hb1); clear hb1)
              | (go_at_call 17; refine (tawake_any _).mono ?_; rintro e w9 ⟨rfl, hb1⟩; replace qx0 := cell_keep qx0 hb1; replace qx1 := cell_keep qx1 hb1; replace SL := Lib.hid (SL.out.below hb1); replace SA := Lib.hid (SA.out.below hb1); replace SD := Lib.hid (SD.out.below hb1); replace SS := Lib.hid (SS.out.below hb1); replace SM := Lib.hid (SM.out.below hb1); replace SO := Lib.hid (SO.out.below hb1); replace BB := Lib.hid (below_step BB.out hb1); clear hb1)
              | (go_at_call 12; refine (KCH.out _ _ SL.out).mono ?_; rintro e w9 ⟨rfl, hb1⟩; replace qx0 := cell_keep qx0 hb1; replace qx1 := cell_keep qx1 hb1; replace SL := Lib.hid (SL.out.below hb1); replace SA := Lib.hid (SA.out.below hb1); replace SD := Lib.hid (SD.out.below hb1); replace SS := Lib.hid (SS.out.below hb1); replace BB := Lib.hid (below_step BB.out hb1); clear hb1)
              | (go_at_call 13; refine (KMAY.out _ _ SL.out).mono ?_; rintro e w9 ⟨rfl, hb1⟩; replace qx0 := cell_keep qx0 hb1; replace qx1 := cell_keep qx1 hb1; replace SL := Lib.hid (SL.out.below hb1); replace SA := Lib.hid (SA.out.below hb1); replace SD := Lib.hid (SD.out.below hb1); replace SS := Lib.hid (SS.out.below hb1); replace BB := Lib.hid (below_step BB.out hb1); clear hb1)
              | (go_at_call 16; refine (KMN.out _).mono ?_; rintro e w9 ⟨rfl, hb1⟩; replace qx0 := cell_keep qx0 hb1; replace qx1 := cell_keep qx1 hb1; replace SL := Lib.hid (SL.out.below hb1); replace SA := Lib.hid (SA.out.below hb1); replace SD := Lib.hid (SD.out.below hb1); replace SS := Lib.hid (SS.out.below hb1); replace BB := Lib.hid (below_step BB.out hb1); clear hb1)
              | (go_at_call 14; refine (tsame_any _ _ _ _ _ (by first | exact SL.out | exact SA.out | exact SD.out | exact SS.out) (by first | exact SL.out | exact SA.out | exact SD.out | exact SS.out)).mono ?_; rintro e w9 ⟨rfl, hb1⟩; (first | rw [dec_rows]); replace qx0 := cell_keep qx0 hb1; replace qx1 := cell_keep qx1 hb1; replace SL := Lib.hid (SL.out.below hb1); replace SA := Lib.hid (SA.out.below hb1); replace SD := Lib.hid (SD.out.below hb1); replace SS := Lib.hid (SS.out.below hb1); replace BB := Lib.hid (below_step BB.out hb1); clear hb1)
              | (go_at_call 15; refine (refsame16_any _ _ _ _ _ (by first | exact SL.out | exact SA.out | exact SD.out | exact SS.out) (by first | exact SL.out | exact SA.out | exact SD.out | exact SS.out)).mono ?_; rintro e w9 ⟨rfl, hb1⟩; (first | rw [dec_rows]); replace qx0 := cell_keep qx0 hb1; replace qx1 := cell_keep qx1 hb1; replace SL := Lib.hid (SL.out.below hb1); replace SA := Lib.hid (SA.out.below hb1); replace SD := Lib.hid (SD.out.below hb1); replace SS := Lib.hid (SS.out.below hb1); replace BB := Lib.hid (below_step BB.out hb1); clear hb1)
              | (go_at_call 17; refine (tawake_any _).mono ?_; rintro e w9 ⟨rfl, hb1⟩; replace qx0 := cell_keep qx0 hb1; replace qx1 := cell_keep qx1 hb1; replace SL := Lib.hid (SL.out.below hb1); replace SA := Lib.hid (SA.out.below hb1); replace SD := Lib.hid (SD.out.below hb1); replace SS := Lib.hid (SS.out.below hb1); replace BB := Lib.hid (below_step BB.out hb1); clear hb1))
          go_ret
          exact ⟨rfl, BB.out⟩

theorem own : ownKnob Tryz.prog.godebug = none := by kernel_rfl
theorem laidOut : laidOutB Tryz.prog = true := by kernel_rfl

set_option maxRecDepth 100000 in
theorem lifted (os : Os) (started : os.Started) (H : Type) (enc : TypeId × Value → H) :
    ReturnsInHanded {} Tryz.checked os 3 .any (Rows.tallyChangeSpec.pre6 enc Tryz.prog Tryz.f3 Rows.tallyChangeRow.domain false) (Rows.tallyChangeSpec.post enc Tryz.prog Tryz.f3 false true false false) := by
  refine returnsInHanded_of_change (C := Tryz.checked) own started (by kernel_rfl) Tryz.func3
    (ChangeSpec.witness6 (enc := enc) (C := Tryz.checked) false ⟨#[], #[.slice none 0 0, .agg #[.string ByteArray.empty, .string ByteArray.empty]], []⟩ 8 (by kernel_rfl) (by kernel_rfl) (by kernel_rfl) (by kernel_rfl)) ?_
  intro W base args ds gs before hval0 hW hcnd _
  have hval : ∀ (j : Nat) t v, Tryz.f3.params[j]? = some t → args[j]? = some v → Value.okWide Tryz.prog W .any base t v := hval0
  have hW' := hW
  obtain ⟨p, q, hA0, hV, rfl, hfz, hnd⟩ := hW
  have hA : DataW.TrodAll enc Tryz.prog W 0 (fun _ => true) true Tryz.f3.params.toList args.toList ds p := hA0
  rw [Tryz.params3] at hA hval
  obtain ⟨v0, vs0, d0, ds0, p0, q0, hargs, rfl, rfl, h0, r0⟩ := trodAll_cons hA
  obtain ⟨v1, vs1, d1, ds1, p1, q1, rfl, rfl, rfl, h1, r1⟩ := trodAll_cons r0
  obtain ⟨rfl, rfl, rfl⟩ := trodAll_nil r1
  obtain rfl : args = #[v0, v1] := by cases args; simp_all
  obtain ⟨rfl, rfl⟩ := trodVars_none hV
  obtain ⟨a0, len0, cap0, rfl⟩ := okWide_slice Tryz.underlying22 (hval 0 22 v0 rfl rfl)
  have k0 := h0
  have lt0 : ∀ x ∈ p0, x.block < W.heap.size := by obtain ⟨m, hm⟩ := k0; exact DataW.trod_lt m _ _ _ hm
  obtain ⟨z0, w0⟩ : ∃ zs, Rws W (.slice a0 len0 cap0) zs ∧ fitsR zs := by
    obtain ⟨fuel, hf⟩ := h0
    exact rws_open (by simpa [Value.cells] using hf)
  have k1 := h1
  have lt1 : ∀ x ∈ p1, x.block < W.heap.size := by obtain ⟨m, hm⟩ := k1; exact DataW.trod_lt m _ _ _ hm
  obtain ⟨z1, w1⟩ := node_open (hval 1 24 v1 rfl rfl) h1
  clear hA0 hval0
  refine (walk _ z0 _ z1 W w0 w1).mono fun e W' ⟨he, bel⟩ => ?_
  subst he
  exact ⟨_, rfl, _, _, _, [], _, [], hW', trodAll_mk1 (shut_bool Tryz.underlying4 _), (trodAll_cons_mk (Below.trod laidOut (by kernel_rfl) (of_decide_eq_true (by kernel_rfl)) k0 bel lt0) (trodAll_cons_mk (Below.trod laidOut (by kernel_rfl) (of_decide_eq_true (by kernel_rfl)) k1 bel lt1) trodAll_mk0)), rfl, bel.frame _, fun h => by cases h⟩

-- the given statement
theorem proved : Rows.TallyChangeSaid :=
  OpenClaim.holds_of_wide 3 Tryz.f3 rfl rfl rfl rfl rfl rfl rfl ⟨rfl, rfl, rfl, rfl, rfl⟩ rfl rfl rfl rfl rfl (by kernel_rfl) Tryz.func3 (by kernel_rfl)
    (of_decide_eq_true (by kernel_rfl)) (by unfold Func.isWrapper; first | (rw [if_pos (by decide +kernel)]; kernel_rfl) | (rw [if_neg (by decide +kernel)]; exact ⟨rfl, rfl⟩))
    (fun os started H enc _ => lifted os started H enc)
end Go.Proofs.YtnngfcjfhhfafaaGreat.tallyChange
