/- Of every store, every two nodes and every text (no more, and no longer, than are looked at): what was put is got, and of the other node what was there; then dropped, it is not there, and of the other one what was; no condition. -/
import Derived.Test.YtceefoiffkgliaaRows
import Derived.Test.YtceefoiffkgliaaStoS
import Derived.ProofKit
import Derived.OpenShut
import Derived.ShutString
import Derived.ChangeOld
namespace Go.Proofs.Ytceefoiffkgliaa.storeGets
open Go.ChangeShapes Go.WideShapes Go.ChangeAt Go.RowKit
open Go.ChangeMaps (open_string shut_string)
set_option maxRecDepth 100000
set_option linter.unusedVariables false

set_option maxRecDepth 100000 in
set_option maxHeartbeats 6400000 in
theorem walk (M : Value) (x : (List Nd × List (List UInt8)) × Nd × Nd × List UInt8) (w : World) (hM : ∃ s t, M = .agg #[s, t, .string (mkB x.2.1.1), .string (mkB x.2.1.2), .string (mkB x.2.2.1.1), .string (mkB x.2.2.1.2), .string (mkB x.2.2.2)] ∧ StoIn w (.agg #[s, t]) x.1.1 x.1.2 ∧ fitsN x.2.1 ∧ fitsN x.2.2.1 ∧ x.2.2.2.length ≤ maxLen) :
    Calls Try.prog 4 #[M] w fun e w' => e = .returned (.bool true) ∧ Below w.heap.size w w' := by
  obtain ⟨⟨K0, T0⟩, ⟨pq, vq⟩, ⟨po, vo⟩, t⟩ := x
  obtain ⟨sa, sb, rfl, ⟨⟨A, n, c, B, m, d, hv0, hk, ht⟩, fK, fT⟩, fq, fo, -⟩ := hM
  injection hv0 with hv0
  injection hv0 with hv0
  injection hv0 with hv1 hv0
  injection hv0 with hv2 _
  subst hv1 hv2
  simp only at hk ht fK fT fq fo ⊢
  have hsq := oneN_smallQ (pq, vq)
  have hso := oneN_smallQ (po, vo)
  have hoq := fun w => one_any pq vq w fq.1 fq.2
  have hoo := fun w => one_any po vo w fo.1 fo.2
  obtain ⟨q1, hq1⟩ : ∃ r, fewL pq = r := ⟨_, rfl⟩
  obtain ⟨q2, hq2⟩ : ∃ r, fewL vq = r := ⟨_, rfl⟩
  obtain ⟨o1, ho1⟩ : ∃ r, fewL po = r := ⟨_, rfl⟩
  obtain ⟨o2, ho2⟩ : ∃ r, fewL vo = r := ⟨_, rfl⟩
  simp only at hsq hso
  rw [hq1, hq2] at hsq hoq
  rw [ho1, ho2] at hso hoo
  have hkl := fewNs_len K0; have htl := fewTs_len T0; have hks := fewNs_small K0
  have hfw := fun w h h' => sfew_any A B n c m d K0 T0 w h h' fK fT
  obtain ⟨K, hK⟩ : ∃ r, fewNs K0 = r := ⟨_, rfl⟩
  obtain ⟨T, hT⟩ : ∃ r, fewTs T0 = r := ⟨_, rfl⟩
  rw [hK] at hkl hks hfw
  rw [hT] at htl hfw
  obtain ⟨nK, hnK⟩ : ∃ r, K.length = r := ⟨_, rfl⟩
  obtain ⟨nT, hnT⟩ : ∃ r, T.length = r := ⟨_, rfl⟩
  rw [hnK] at hkl
  rw [hnT] at htl
  obtain ⟨cs, hcs⟩ : ∃ cs : Array Value, #[.slice A n c, .slice B m d, .string (mkB pq), .string (mkB vq), .string (mkB po), .string (mkB vo), .string (mkB t)] = cs := ⟨_, rfl⟩
  obtain ⟨W, gA, hW, hg, c0, c1, c2, c3, c4, c5, c6, hb⟩ : ∃ W gA, w.alloc (.cells cs 46) = W ∧ w.heap.size = gA ∧ W.cell? ⟨gA, 0, none⟩ = some (.slice A n c) ∧ W.cell? ⟨gA, 1, none⟩ = some (.slice B m d) ∧ W.cell? ⟨gA, 2, none⟩ = some (.string (mkB pq)) ∧ W.cell? ⟨gA, 3, none⟩ = some (.string (mkB vq)) ∧ W.cell? ⟨gA, 4, none⟩ = some (.string (mkB po)) ∧ W.cell? ⟨gA, 5, none⟩ = some (.string (mkB vo)) ∧ W.cell? ⟨gA, 6, none⟩ = some (.string (mkB t)) ∧ Below w.heap.size w W := by
    subst hcs
    exact ⟨_, _, rfl, rfl, cell_new rfl rfl, cell_new rfl rfl, cell_new rfl rfl, cell_new rfl rfl, cell_new rfl rfl, cell_new rfl rfl, cell_new rfl rfl, (Below.refl _ _).alloc (Nat.le_refl _) _⟩
  subst hcs
  have SK0 := Lib.hid (hk.below hb); have ST0 := Lib.hid (ht.belowB hb); have A0 := Lib.hid c0; have A1 := Lib.hid c1; have A2 := Lib.hid c2; have A3 := Lib.hid c3; have A4 := Lib.hid c4; have A5 := Lib.hid c5; have A6 := Lib.hid c6; have HFW := Lib.hid hfw; have HOq := Lib.hid hoq; have HOo := Lib.hid hoo; have HNK := Lib.hid hnK; have HNT := Lib.hid hnT; have HSQ := Lib.hid hsq; have HSO := Lib.hid hso; have HSK := Lib.hid hks
  have BB := Lib.hid hb; have HW := Lib.hid hW; have HG := Lib.hid hg
  clear hk ht c0 c1 c2 c3 c4 c5 c6 hfw hoq hoo hnK hnT hsq hso hks hb hW hg hK hT hq1 hq2 ho1 ho2 fK fT fq fo
  have e1 : ∀ args w, (callFunc 8 args).run Try.prog w = .ok (.enter 8 args) w := enters_of Try.func8 (by kernel_rfl) rfl
  have e2 : ∀ args w, (callFunc 9 args).run Try.prog w = .ok (.enter 9 args) w := enters_of Try.func9 (by kernel_rfl) rfl
  go_enter Try.func4, Try.ntmps4
  go_upto_region 1 with fail
  rw [HW.out, HG.out]
  refine rol_run (by kernel_rfl) [[], [0], [0, 1], [], [3], [0, 1, 2, 3, 4], [], [6], [0, 1, 2, 3, 4, 5, 6, 7], [], [9], [], [], [], [0, 1, 2, 3, 4, 5, 6, 7, 8, 11, 12, 13], [0, 1, 2, 3, 4, 5, 6, 7, 8, 11, 12, 13, 14], [0, 1, 2, 3, 4, 5, 6, 7, 8, 11, 12, 13, 14, 15], [0, 1, 2, 3, 4, 5, 6, 7, 8, 9, 10, 11, 12, 13, 14, 15, 16]] (by kernel_rfl) [21, 22, 23, 24, 25, 26, 27, 28, 29, 30, 31, 3, 4, 5, 6] [[], [0], [1], [], [3], [4], [], [6], [7], [], [9], [], [], [], [2, 11], [5, 12], [8, 13], [10]] [0, 0, 1, 0, 0, 0, 0, 0, 0, 0, 0, 2, 3, 4, 2, 3, 4, 0] [0, 0, 0, 0, 0, 0, 0, 0, 0, 0, 0, 0, 0, 0, 2, 3, 4, 0] [1000, 1000, 1000, 1000, 1000, 1000, 1000, 1000, 1000, 1000, 1000, 14, 15, 16, 1000, 1000, 1000, 1000] [.val 21 (.pointer (some ⟨gA, 0, none⟩)), .val 22 (.agg #[.slice A n c, .slice B m d]), .mems 23 (stoG W.heap.size K T), .val 24 (.pointer (some ⟨gA, 2, none⟩)), .val 25 (.agg #[.string (mkB pq), .string (mkB vq)]), .val 26 (.agg #[.string (mkB q1), .string (mkB q2)]), .val 27 (.pointer (some ⟨gA, 4, none⟩)), .val 28 (.agg #[.string (mkB po), .string (mkB vo)]), .val 29 (.agg #[.string (mkB o1), .string (mkB o2)]), .val 30 (.pointer (some ⟨gA, 6, none⟩)), .val 31 (.string (mkB t)), .mem 3 (cell2P W.heap.size 25 (.slice none 0 0) (.slice none 0 0)), .mem 4 (cell2P W.heap.size 27 (.string ⟨#[]⟩) (.string ⟨#[]⟩)), .mem 5 (cell2P W.heap.size 27 (.string ⟨#[]⟩) (.string ⟨#[]⟩)), .mem2 3 23 (tie2P W.heap.size 25), .mem 4 (cell2P W.heap.size 27 (.string (mkB q1)) (.string (mkB q2))), .mem 5 (cell2P W.heap.size 27 (.string (mkB o1)) (.string (mkB o2))), .val 6 (.string (mkB t))] (by kernel_rfl) ?_ (W.heap.size) (W.heap.size) rfl (Below.refl _ _) rfl (fun _ => 0) ?_ ?_ ?_
  · intro j hj
    have hj3 : j < 18 := hj
    have hj2 : j = 0 ∨ j = 1 ∨ j = 2 ∨ j = 3 ∨ j = 4 ∨ j = 5 ∨ j = 6 ∨ j = 7 ∨ j = 8 ∨ j = 9 ∨ j = 10 ∨ j = 11 ∨ j = 12 ∨ j = 13 ∨ j = 14 ∨ j = 15 ∨ j = 16 ∨ j = 17 := by omega
    clear hj hj3
    rcases hj2 with rfl | rfl | rfl | rfl | rfl | rfl | rfl | rfl | rfl | rfl | rfl | rfl | rfl | rfl | rfl | rfl | rfl | rfl
    · exact trivial
    · exact trivial
    · exact stoG_near
    · exact trivial
    · exact trivial
    · exact trivial
    · exact trivial
    · exact trivial
    · exact trivial
    · exact trivial
    · exact trivial
    · exact cell2P_near
    · exact cell2P_near
    · exact cell2P_near
    · exact tie2P_near
    · exact cell2P_near
    · exact cell2P_near
    · exact trivial
  · intro j hj0 hj
    exact absurd hj (Nat.not_lt.2 hj0)
  · intro i hi a wx who hG hF
    have hz : a.tmps.size = 128 := hG.size
    have hi3 : i < 18 := hi
    have hi2 : i = 0 ∨ i = 1 ∨ i = 2 ∨ i = 3 ∨ i = 4 ∨ i = 5 ∨ i = 6 ∨ i = 7 ∨ i = 8 ∨ i = 9 ∨ i = 10 ∨ i = 11 ∨ i = 12 ∨ i = 13 ∨ i = 14 ∨ i = 15 ∨ i = 16 ∨ i = 17 := by omega
    clear hi hi3
    rcases hi2 with rfl | rfl | rfl | rfl | rfl | rfl | rfl | rfl | rfl | rfl | rfl | rfl | rfl | rfl | rfl | rfl | rfl | rfl
    · exact rol_val rfl rfl rfl (by rw [hz]; decide) (ex_field rfl (eval_slot ((hG.slots 1 (by decide)).trans rfl)) (by go_simp)) hG.below
    · exact rol_val rfl rfl rfl (by rw [hz]; decide) (ex_load rfl (eval_slot (hF 0 (by decide))) (ld_sto (cell_keep A0.out hG.below) (cell_keep A1.out hG.below))) hG.below
    · refine rol_calls rfl rfl rfl (by rw [hz]; decide) (ex_call rfl (by simp [eval_slot (hF 1 (by decide))]) e1) (HFW.out wx (Nds.below SK0.out hG.below) (Strs.belowB ST0.out hG.below)) ?_ hG.below hG.new
      rintro e w1 ⟨u, rfl, hso, hb1⟩
      obtain ⟨bs, hbs, hg⟩ := hso.toG hG.new
      exact ⟨u, rfl, hb1, .inr (.inr ⟨_, bs, rfl, hbs, hg⟩)⟩
    · exact rol_val rfl rfl rfl (by rw [hz]; decide) (ex_field rfl (eval_slot ((hG.slots 1 (by decide)).trans rfl)) (by go_simp)) hG.below
    · exact rol_val rfl rfl rfl (by rw [hz]; decide) (ex_load rfl (eval_slot (hF 3 (by decide))) (ld_node (cell_keep A2.out hG.below) (cell_keep A3.out hG.below))) hG.below
    · refine rol_calls rfl rfl rfl (by rw [hz]; decide) (ex_call rfl (by simp [eval_slot (hF 4 (by decide))]) e2) (HOq.out wx) ?_ hG.below hG.new
      rintro e w1 ⟨rfl, hb1⟩
      exact ⟨_, rfl, hb1, .inl rfl⟩
    · exact rol_val rfl rfl rfl (by rw [hz]; decide) (ex_field rfl (eval_slot ((hG.slots 1 (by decide)).trans rfl)) (by go_simp)) hG.below
    · exact rol_val rfl rfl rfl (by rw [hz]; decide) (ex_load rfl (eval_slot (hF 6 (by decide))) (ld_node (cell_keep A4.out hG.below) (cell_keep A5.out hG.below))) hG.below
    · refine rol_calls rfl rfl rfl (by rw [hz]; decide) (ex_call rfl (by simp [eval_slot (hF 7 (by decide))]) e2) (HOo.out wx) ?_ hG.below hG.new
      rintro e w1 ⟨rfl, hb1⟩
      exact ⟨_, rfl, hb1, .inl rfl⟩
    · exact rol_val rfl rfl rfl (by rw [hz]; decide) (ex_field rfl (eval_slot ((hG.slots 1 (by decide)).trans rfl)) (by go_simp)) hG.below
    · exact rol_val rfl rfl rfl (by rw [hz]; decide) (ex_load rfl (eval_slot (hF 9 (by decide))) (ld_str (cell_keep A6.out hG.below))) hG.below
    · exact rol_alloc_sto rfl rfl rfl (by rw [hz]; decide) rfl hG.below (Nat.le_refl _) hG.new
    · exact rol_alloc_node rfl rfl rfl (by rw [hz]; decide) rfl hG.below (Nat.le_refl _) hG.new
    · exact rol_alloc_node rfl rfl rfl (by rw [hz]; decide) rfl hG.below (Nat.le_refl _) hG.new
    · exact rol_fill_sto rfl rfl rfl rfl (hF 11 (by decide)) (hF 2 (by decide)) hG.below (Nat.le_refl _)
    · exact rol_fill_node rfl rfl rfl rfl (hF 12 (by decide)) (eval_slot (hF 5 (by decide))) hG.below (Nat.le_refl _)
    · exact rol_fill_node rfl rfl rfl rfl (hF 13 (by decide)) (eval_slot (hF 8 (by decide))) hG.below (Nat.le_refl _)
    · exact rol_val rfl rfl rfl (by rw [hz]; decide) (ex_move (Or.inr rfl) (eval_slot (hF 10 (by decide)))) hG.below
  · intro a wx who hG hF
    obtain ⟨v23, bs23, fv23, fo23, fp23⟩ := hF 2 (of_decide_eq_true (by kernel_rfl)) (of_decide_eq_true (by kernel_rfl))
    replace fv23 : a.tmps.getD 23 undef = v23 := eval_slot (s := 23) fv23
    have fv6 : a.tmps.getD 6 undef = .string (mkB t) := eval_slot (s := 6) (hF 17 (of_decide_eq_true (by kernel_rfl)) (of_decide_eq_true (by kernel_rfl)))
    have htie := hF 14 (of_decide_eq_true (by kernel_rfl)) (of_decide_eq_true (by kernel_rfl))
    have hn4 := hF 15 (of_decide_eq_true (by kernel_rfl)) (of_decide_eq_true (by kernel_rfl))
    have hn5 := hF 16 (of_decide_eq_true (by kernel_rfl)) (of_decide_eq_true (by kernel_rfl))
    obtain ⟨p3, u3, ob3, hp3, hu3, -, gs, x3, y3, rfl, -, rfl, -, hrow3⟩ := htie
    have e3 : v23 = .agg #[x3, y3] := fv23.symm.trans (eval_slot hu3)
    obtain ⟨p4, ob4, hp4, -, gq, rfl, -, -, hrow4⟩ := hn4
    obtain ⟨p5, ob5, hp5, -, go, rfl, -, -, hrow5⟩ := hn5
    have fv3 : a.tmps.getD 3 undef = .pointer (some ⟨gs, 0, none⟩) := eval_slot (s := 3) hp3
    have fv4 : a.tmps.getD 4 undef = .pointer (some ⟨gq, 0, none⟩) := eval_slot (s := 4) hp4
    have fv5 : a.tmps.getD 5 undef = .pointer (some ⟨go, 0, none⟩) := eval_slot (s := 5) hp5
    clear hp3 hu3 hp4 hp5 ob3 ob4 ob5
    have hbx := hG.below
    have hnx := hG.new
    rw [hG.frame]
    simp only [List.foldl_cons, List.foldl_nil, List.setIfInBounds_toArray, List.set_cons_zero, List.set_cons_succ]
    generalize a.tmps.getD 21 undef = u21
    generalize a.tmps.getD 22 undef = u22
    rw [fv23]
    generalize a.tmps.getD 24 undef = u24
    generalize a.tmps.getD 25 undef = u25
    generalize a.tmps.getD 26 undef = u26
    generalize a.tmps.getD 27 undef = u27
    generalize a.tmps.getD 28 undef = u28
    generalize a.tmps.getD 29 undef = u29
    generalize a.tmps.getD 30 undef = u30
    generalize a.tmps.getD 31 undef = u31
    rw [fv3]
    rw [fv4]
    rw [fv5]
    rw [fv6]
    clear hF hG fv23 fv6 fv3 fv4 fv5
    obtain ⟨aK, cK, aT, cT, hv1, hn1, ht1⟩ := fp23.own.forms
    rw [e3] at hv1
    injection hv1 with hv1
    injection hv1 with hv1
    injection hv1 with hv1 hv2
    injection hv2 with hv2
    subst hv1 hv2 e3
    obtain ⟨s0, s1, -, -⟩ := row2 hrow3
    rw [HNK.out] at hn1 s0 ⊢
    rw [HNT.out] at ht1 s1 ⊢
    obtain ⟨qx0, qx1, -, -⟩ := row2 hrow4
    obtain ⟨ox0, ox1, -, -⟩ := row2 hrow5
    have SK := Lib.hid hn1; have ST := Lib.hid ht1
    replace BB := Lib.hid (below_step BB.out hbx)
    clear fp23 fo23 hrow3 hrow4 hrow5 hn1 ht1 hbx hnx SK0 ST0 A0 A1 A2 A3 A4 A5 A6 HFW HOq HOo e1 e2
    have ksp := putE_small (T := T) (t := t) HSK.out HSQ.out
    have klp := putE_len (n := (q1, q2)) (t := t) (m := 24) (by rw [HNK.out]; exact hkl) (by rw [HNT.out]; exact htl)
    have kpp := fun w h h' => sput_any aK aT nK cK nT cT K T q1 q2 t w h h' HSK.out HSQ.out (by omega) (by omega)
    obtain ⟨PA, hPA⟩ : ∃ r, putE K T (q1, q2) t = r := ⟨_, rfl⟩
    rw [hPA] at ksp klp kpp
    obtain ⟨P1, P2, P3⟩ := PA
    simp only at ksp klp kpp
    obtain ⟨np, hnp⟩ : ∃ r, P1.length = r := ⟨_, rfl⟩
    obtain ⟨npt, hnpt⟩ : ∃ r, P2.length = r := ⟨_, rfl⟩
    rw [hnp, hnpt] at klp
    obtain ⟨lp1, lp2⟩ := klp
    have KPP := Lib.hid kpp; have HPA := Lib.hid hPA; have HNP := Lib.hid hnp; have HNPT := Lib.hid hnpt; have KSP := Lib.hid ksp
    clear kpp hPA hnp hnpt ksp
    go_upto_region 3 with (go_at_call 11; refine (KPP.out _ SK.out ST.out).mono ?_; rintro e w4 ⟨u, rfl, hso, hb4⟩; obtain ⟨pa, pc, pb, pd, rfl, hn4, ht4⟩ := hso.forms; rw [HNP.out] at hn4 ⊢; rw [HNPT.out] at ht4 ⊢; replace s0 := cell_keep s0 hb4; replace s1 := cell_keep s1 hb4; replace qx0 := cell_keep qx0 hb4; replace qx1 := cell_keep qx1 hb4; replace ox0 := cell_keep ox0 hb4; replace ox1 := cell_keep ox1 hb4; replace SK := Lib.hid (SK.out.below hb4); replace ST := Lib.hid (ST.out.belowB hb4); replace BB := Lib.hid (below_step BB.out hb4); have SP := Lib.hid hn4; have SP2 := Lib.hid ht4; clear hb4 hso hn4 ht4)
    obtain ⟨W4, gp, hW5, hg5, -, p0, p1, hb5⟩ := boxS w4 (.slice pa np pc) (.slice pb npt pd) 25
    rw [hW5, hg5]
    replace SP := Lib.hid (SP.out.below hb5); replace SP2 := Lib.hid (SP2.out.belowB hb5)
    replace s0 := cell_keep s0 hb5; replace s1 := cell_keep s1 hb5; replace qx0 := cell_keep qx0 hb5; replace qx1 := cell_keep qx1 hb5; replace ox0 := cell_keep ox0 hb5; replace ox1 := cell_keep ox1 hb5; replace SK := Lib.hid (SK.out.below hb5); replace ST := Lib.hid (ST.out.belowB hb5); replace BB := Lib.hid (below_step BB.out hb5)
    clear hW5 hg5 hb5
    clear KPP
    cases hx : (okS K T && okN (q1, q2))
    · have h1 := HPA.out
      rw [putE_no hx] at h1
      obtain ⟨rfl, h2⟩ := Prod.mk.inj h1
      obtain ⟨rfl, rfl⟩ := Prod.mk.inj h2
      clear h1 h2 hx
      go_wp2_with (go_at_call 18; refine (sawake_any _).mono ?_; rintro e w9 ⟨rfl, hb9⟩; replace BB := Lib.hid (below_step BB.out hb9); clear hb9)
      go_ret
      exact ⟨rfl, BB.out⟩
    · rw [Bool.and_eq_true] at hx
      obtain ⟨hx, hy⟩ := hx
      obtain ⟨z1, z2, z3⟩ := okS_zip hx
      have h1 := HPA.out
      have e5 := putE_yes (S := K.zip T) (t := t) z3 hy
      rw [z1, z2] at e5
      rw [e5] at h1
      obtain ⟨hp1, h2⟩ := Prod.mk.inj h1
      obtain ⟨hp2, rfl⟩ := Prod.mk.inj h2
      have hop := put_ok (t := t) z3 hy
      have hod := drop_ok (n := (q1, q2)) hop
      have exg := getE_yes hop hy
      have exd := dropE_yes hop hy
      have exh := getE_yes hod hy
      rw [if_pos (put_has z3 hy), put_get z3 hy] at exg
      rw [if_pos (put_has z3 hy)] at exd
      rw [if_neg (by rw [show hasP (dropP (putP (K.zip T) (q1, q2) t) (q1, q2)) (q1, q2) = false from drop_has]; simp)] at exh
      have hoth := fun hne => gets_other (o := (o1, o2)) (t := t) z3 hy hne
      have hcp : chkS P1 P2 = 0 := by unfold chkS; rw [← hp1, ← hp2, okS_of hop]; rfl
      rw [hp1, hp2] at exg exd hoth
      obtain ⟨D1, hD1⟩ : ∃ r, (dropP (putP (K.zip T) (q1, q2) t) (q1, q2)).map Prod.fst = r := ⟨_, rfl⟩
      obtain ⟨D2, hD2⟩ : ∃ r, (dropP (putP (K.zip T) (q1, q2) t) (q1, q2)).map Prod.snd = r := ⟨_, rfl⟩
      have hcd : chkS D1 D2 = 0 := by unfold chkS; rw [← hD1, ← hD2, okS_of hod]; rfl
      rw [hD1, hD2] at exd exh hoth
      rw [z1, z2] at hoth
      have ksd := dropE_small (K := P1) (T := P2) (n := (q1, q2)) KSP.out
      have kld := dropE_len (K := P1) (T := P2) (n := (q1, q2)) (m := 25) (by rw [HNP.out]; exact lp1) (by rw [HNPT.out]; exact lp2)
      rw [exd] at ksd kld
      simp only at ksd kld
      obtain ⟨nd, hnd⟩ : ∃ r, D1.length = r := ⟨_, rfl⟩
      obtain ⟨ndt, hndt⟩ : ∃ r, D2.length = r := ⟨_, rfl⟩
      rw [hnd, hndt] at kld
      obtain ⟨ld1, ld2⟩ := kld
      have kgp := fun w h h' => sget_any pa pb np pc npt pd P1 P2 q1 q2 w h h' KSP.out HSQ.out (by omega)
      have kdp := fun w h h' => sdrop_any pa pb np pc npt pd P1 P2 q1 q2 w h h' KSP.out HSQ.out (by omega) (by omega)
      rw [exg] at kgp
      rw [exd] at kdp
      simp only at kgp kdp
      have KGP := Lib.hid kgp; have KDP := Lib.hid kdp; have EXH := Lib.hid exh; have HOTH := Lib.hid hoth; have HCP := Lib.hid hcp; have HCD := Lib.hid hcd; have HND := Lib.hid hnd; have HNDT := Lib.hid hndt; have KSD := Lib.hid ksd
      clear kgp kdp exg exd exh hoth hcp hcd hnd hndt ksd h1 h2 e5 hp1 hp2 hop hod z1 z2 z3 hx hy hD1 hD2
      go_upto_region 6 with (go_at_call 10; refine (KGP.out _ SP.out SP2.out).mono ?_; rintro e w5 ⟨rfl, hb4⟩; replace s0 := cell_keep s0 hb4; replace s1 := cell_keep s1 hb4; replace qx0 := cell_keep qx0 hb4; replace qx1 := cell_keep qx1 hb4; replace ox0 := cell_keep ox0 hb4; replace ox1 := cell_keep ox1 hb4; replace p0 := cell_keep p0 hb4; replace p1 := cell_keep p1 hb4; replace SK := Lib.hid (SK.out.below hb4); replace SP := Lib.hid (SP.out.below hb4); replace ST := Lib.hid (ST.out.belowB hb4); replace SP2 := Lib.hid (SP2.out.belowB hb4); replace BB := Lib.hid (below_step BB.out hb4); clear hb4 KGP)
      go_upto_region 7 with (go_at_call 12; refine (KDP.out _ SP.out SP2.out).mono ?_; rintro e w6 ⟨u, rfl, hso, hb4⟩; obtain ⟨da, dc, db, dd, rfl, hn4, ht4⟩ := hso.forms; rw [HND.out] at hn4 ⊢; rw [HNDT.out] at ht4 ⊢; replace s0 := cell_keep s0 hb4; replace s1 := cell_keep s1 hb4; replace qx0 := cell_keep qx0 hb4; replace qx1 := cell_keep qx1 hb4; replace ox0 := cell_keep ox0 hb4; replace ox1 := cell_keep ox1 hb4; replace p0 := cell_keep p0 hb4; replace p1 := cell_keep p1 hb4; replace SK := Lib.hid (SK.out.below hb4); replace SP := Lib.hid (SP.out.below hb4); replace ST := Lib.hid (ST.out.belowB hb4); replace SP2 := Lib.hid (SP2.out.belowB hb4); replace BB := Lib.hid (below_step BB.out hb4); have SD := Lib.hid hn4; have SD2 := Lib.hid ht4; clear hb4 hso hn4 ht4)
      obtain ⟨W6, gd, hW5, hg5, -, d0, d1, hb5⟩ := boxS w6 (.slice da nd dc) (.slice db ndt dd) 25
      rw [hW5, hg5]
      replace SD := Lib.hid (SD.out.below hb5); replace SD2 := Lib.hid (SD2.out.belowB hb5)
      replace s0 := cell_keep s0 hb5; replace s1 := cell_keep s1 hb5; replace qx0 := cell_keep qx0 hb5; replace qx1 := cell_keep qx1 hb5; replace ox0 := cell_keep ox0 hb5; replace ox1 := cell_keep ox1 hb5; replace p0 := cell_keep p0 hb5; replace p1 := cell_keep p1 hb5; replace SK := Lib.hid (SK.out.below hb5); replace SP := Lib.hid (SP.out.below hb5); replace ST := Lib.hid (ST.out.belowB hb5); replace SP2 := Lib.hid (SP2.out.belowB hb5); replace BB := Lib.hid (below_step BB.out hb5)
      clear hW5 hg5 hb5
      have kgd := fun w h h' => sget_any da db nd dc ndt dd D1 D2 q1 q2 w h h' KSD.out HSQ.out (by omega)
      rw [EXH.out] at kgd
      simp only at kgd
      have KGD := Lib.hid kgd; clear kgd KDP
      go_upto_region 8 with (go_at_call 10; refine (KGD.out _ SD.out SD2.out).mono ?_; rintro e w7 ⟨rfl, hb4⟩; replace s0 := cell_keep s0 hb4; replace s1 := cell_keep s1 hb4; replace qx0 := cell_keep qx0 hb4; replace qx1 := cell_keep qx1 hb4; replace ox0 := cell_keep ox0 hb4; replace ox1 := cell_keep ox1 hb4; replace p0 := cell_keep p0 hb4; replace p1 := cell_keep p1 hb4; replace d0 := cell_keep d0 hb4; replace d1 := cell_keep d1 hb4; replace SK := Lib.hid (SK.out.below hb4); replace SP := Lib.hid (SP.out.below hb4); replace SD := Lib.hid (SD.out.below hb4); replace ST := Lib.hid (ST.out.belowB hb4); replace SP2 := Lib.hid (SP2.out.belowB hb4); replace SD2 := Lib.hid (SD2.out.belowB hb4); replace BB := Lib.hid (below_step BB.out hb4); clear hb4 KGD)
      have hqt : (!(mkB t).toList == (mkB t).toList) = false := by simp
      have hgd := guard_nd
      have heq := eq_nd o1 o2 q1 q2
      by_cases hne : (o1, o2) = (q1, q2)
      · rw [decide_eq_true hne] at heq
        clear hne
        go_wp2_with (first
          | (go_at_call 13; refine (schk_any _ _ _ _ _ _ _ _ _ (by first | exact SP.out | exact SD.out) (by first | exact SP2.out | exact SD2.out) (by first | exact KSP.out | exact KSD.out)).mono ?_; rintro e w9 ⟨rfl, hb9⟩; (first | rw [HCP.out] | rw [HCD.out]); replace s0 := cell_keep s0 hb9; replace s1 := cell_keep s1 hb9; replace qx0 := cell_keep qx0 hb9; replace qx1 := cell_keep qx1 hb9; replace ox0 := cell_keep ox0 hb9; replace ox1 := cell_keep ox1 hb9; replace p0 := cell_keep p0 hb9; replace p1 := cell_keep p1 hb9; replace d0 := cell_keep d0 hb9; replace d1 := cell_keep d1 hb9; replace SK := Lib.hid (SK.out.below hb9); replace SP := Lib.hid (SP.out.below hb9); replace SD := Lib.hid (SD.out.below hb9); replace ST := Lib.hid (ST.out.belowB hb9); replace SP2 := Lib.hid (SP2.out.belowB hb9); replace SD2 := Lib.hid (SD2.out.belowB hb9); replace BB := Lib.hid (below_step BB.out hb9); clear hb9)
          | (go_at_call 18; refine (sawake_any _).mono ?_; rintro e w9 ⟨rfl, hb9⟩; replace BB := Lib.hid (below_step BB.out hb9); clear hb9))
        go_ret
        exact ⟨rfl, BB.out⟩
      · rw [decide_eq_false hne] at heq
        obtain ⟨hg1, hg2⟩ := HOTH.out hne
        have kg1 := fun w h h' => sget_any aK aT nK cK nT cT K T o1 o2 w h h' HSK.out HSO.out (by omega)
        have kg2 := fun w h h' => sget_any pa pb np pc npt pd P1 P2 o1 o2 w h h' KSP.out HSO.out (by omega)
        have kg3 := fun w h h' => sget_any da db nd dc ndt dd D1 D2 o1 o2 w h h' KSD.out HSO.out (by omega)
        obtain ⟨E, hE⟩ : ∃ r, getE K T (o1, o2) = r := ⟨_, rfl⟩
        rw [hE] at kg1
        rw [hg1, hE] at kg2
        rw [hg2, hE] at kg3
        obtain ⟨E1, E2⟩ := E
        simp only at kg1 kg2 kg3
        have KG1 := Lib.hid kg1; have KG2 := Lib.hid kg2; have KG3 := Lib.hid kg3
        clear kg1 kg2 kg3 hE hg1 hg2 hne
        go_upto_region 12 with (first
          | (go_at_call 13; refine (schk_any _ _ _ _ _ _ _ _ _ (by first | exact SP.out | exact SD.out) (by first | exact SP2.out | exact SD2.out) (by first | exact KSP.out | exact KSD.out)).mono ?_; rintro e w9 ⟨rfl, hb9⟩; (first | rw [HCP.out] | rw [HCD.out]); replace s0 := cell_keep s0 hb9; replace s1 := cell_keep s1 hb9; replace qx0 := cell_keep qx0 hb9; replace qx1 := cell_keep qx1 hb9; replace ox0 := cell_keep ox0 hb9; replace ox1 := cell_keep ox1 hb9; replace p0 := cell_keep p0 hb9; replace p1 := cell_keep p1 hb9; replace d0 := cell_keep d0 hb9; replace d1 := cell_keep d1 hb9; replace SK := Lib.hid (SK.out.below hb9); replace SP := Lib.hid (SP.out.below hb9); replace SD := Lib.hid (SD.out.below hb9); replace ST := Lib.hid (ST.out.belowB hb9); replace SP2 := Lib.hid (SP2.out.belowB hb9); replace SD2 := Lib.hid (SD2.out.belowB hb9); replace BB := Lib.hid (below_step BB.out hb9); clear hb9))
        have hqe : ((mkB E1).toList == (mkB E1).toList) = true := by simp
        clear heq hgd
        go_upto_region 13 with (go_at_call 10; refine (KG1.out _ SK.out ST.out).mono ?_; rintro e w9 ⟨rfl, hb9⟩; replace s0 := cell_keep s0 hb9; replace s1 := cell_keep s1 hb9; replace qx0 := cell_keep qx0 hb9; replace qx1 := cell_keep qx1 hb9; replace ox0 := cell_keep ox0 hb9; replace ox1 := cell_keep ox1 hb9; replace p0 := cell_keep p0 hb9; replace p1 := cell_keep p1 hb9; replace d0 := cell_keep d0 hb9; replace d1 := cell_keep d1 hb9; replace SK := Lib.hid (SK.out.below hb9); replace SP := Lib.hid (SP.out.below hb9); replace SD := Lib.hid (SD.out.below hb9); replace ST := Lib.hid (ST.out.belowB hb9); replace SP2 := Lib.hid (SP2.out.belowB hb9); replace SD2 := Lib.hid (SD2.out.belowB hb9); replace BB := Lib.hid (below_step BB.out hb9); clear hb9)
        go_upto_region 14 with (go_at_call 10; refine (KG2.out _ SP.out SP2.out).mono ?_; rintro e w10 ⟨rfl, hb9⟩; replace s0 := cell_keep s0 hb9; replace s1 := cell_keep s1 hb9; replace qx0 := cell_keep qx0 hb9; replace qx1 := cell_keep qx1 hb9; replace ox0 := cell_keep ox0 hb9; replace ox1 := cell_keep ox1 hb9; replace p0 := cell_keep p0 hb9; replace p1 := cell_keep p1 hb9; replace d0 := cell_keep d0 hb9; replace d1 := cell_keep d1 hb9; replace SK := Lib.hid (SK.out.below hb9); replace SP := Lib.hid (SP.out.below hb9); replace SD := Lib.hid (SD.out.below hb9); replace ST := Lib.hid (ST.out.belowB hb9); replace SP2 := Lib.hid (SP2.out.belowB hb9); replace SD2 := Lib.hid (SD2.out.belowB hb9); replace BB := Lib.hid (below_step BB.out hb9); clear hb9)
        go_upto_region 15 with (go_at_call 10; refine (KG3.out _ SD.out SD2.out).mono ?_; rintro e w11 ⟨rfl, hb9⟩; replace s0 := cell_keep s0 hb9; replace s1 := cell_keep s1 hb9; replace qx0 := cell_keep qx0 hb9; replace qx1 := cell_keep qx1 hb9; replace ox0 := cell_keep ox0 hb9; replace ox1 := cell_keep ox1 hb9; replace p0 := cell_keep p0 hb9; replace p1 := cell_keep p1 hb9; replace d0 := cell_keep d0 hb9; replace d1 := cell_keep d1 hb9; replace SK := Lib.hid (SK.out.below hb9); replace SP := Lib.hid (SP.out.below hb9); replace SD := Lib.hid (SD.out.below hb9); replace ST := Lib.hid (ST.out.belowB hb9); replace SP2 := Lib.hid (SP2.out.belowB hb9); replace SD2 := Lib.hid (SD2.out.belowB hb9); replace BB := Lib.hid (below_step BB.out hb9); clear hb9)
        go_wp2_with (go_at_call 18; refine (sawake_any _).mono ?_; rintro e w9 ⟨rfl, hb9⟩; replace BB := Lib.hid (below_step BB.out hb9); clear hb9)
        go_ret
        exact ⟨rfl, BB.out⟩

theorem own : ownKnob Try.prog.godebug = none := by kernel_rfl
theorem laidOut : laidOutB Try.prog = true := by kernel_rfl

set_option maxRecDepth 100000 in
theorem lifted (os : Os) (started : os.Started) (H : Type) (enc : TypeId × Value → H) :
    ReturnsInHanded {} Try.checked os 4 .any (Rows.storeGetsSpec.pre6 enc Try.prog Try.f4 Rows.storeGetsRow.domain false) (Rows.storeGetsSpec.post enc Try.prog Try.f4 false true false false) := by
  refine returnsInHanded_of_change (C := Try.checked) own started (by kernel_rfl) Try.func4
    (ChangeSpec.witness6 (enc := enc) (C := Try.checked) false ⟨#[], #[.agg #[.slice none 0 0, .slice none 0 0, .string ByteArray.empty, .string ByteArray.empty, .string ByteArray.empty, .string ByteArray.empty, .string ByteArray.empty]], []⟩ 8 (by kernel_rfl) (by kernel_rfl) (by kernel_rfl) (by kernel_rfl)) ?_
  intro W base args ds gs before hval0 hW hcnd _
  have hval : ∀ (j : Nat) t v, Try.f4.params[j]? = some t → args[j]? = some v → Value.okWide Try.prog W .any base t v := hval0
  have hW' := hW
  obtain ⟨p, q, hA0, hV, rfl, hfz, hnd⟩ := hW
  have hA : DataW.TrodAll enc Try.prog W 0 (fun _ => true) true Try.f4.params.toList args.toList ds p := hA0
  rw [Try.params4] at hA hval
  obtain ⟨v0, vs0, d0, ds0, p0, q0, hargs, rfl, rfl, h0, r0⟩ := trodAll_cons hA
  obtain ⟨rfl, rfl, rfl⟩ := trodAll_nil r0
  obtain rfl : args = #[v0] := by cases args; simp_all
  obtain ⟨rfl, rfl⟩ := trodVars_none hV
  have k0 := h0
  have lt0 : ∀ x ∈ p0, x.block < W.heap.size := by obtain ⟨m, hm⟩ := k0; exact DataW.trod_lt m _ _ _ hm
  obtain ⟨z0, w0⟩ := ask_open (hval 0 46 v0 rfl rfl) h0
  clear hA0 hval0
  refine (walk _ z0 W w0).mono fun e W' ⟨he, bel⟩ => ?_
  subst he
  exact ⟨_, rfl, _, _, _, [], _, [], hW', trodAll_mk1 (shut_bool Try.underlying4 _), (trodAll_cons_mk (Below.trod laidOut (by kernel_rfl) (of_decide_eq_true (by kernel_rfl)) k0 bel lt0) trodAll_mk0), rfl, bel.frame _, fun h => by cases h⟩

-- the given statement
theorem proved : Rows.StoreGetsSaid :=
  OpenClaim.holds_of_wide 4 Try.f4 rfl rfl rfl rfl rfl rfl rfl ⟨rfl, rfl, rfl, rfl, rfl⟩ rfl rfl rfl rfl rfl (by kernel_rfl) Try.func4 (by kernel_rfl)
    (of_decide_eq_true (by kernel_rfl)) (by unfold Func.isWrapper; first | (rw [if_pos (by decide +kernel)]; kernel_rfl) | (rw [if_neg (by decide +kernel)]; exact ⟨rfl, rfl⟩))
    (fun os started H enc _ => lifted os started H enc)
end Go.Proofs.Ytceefoiffkgliaa.storeGets
