/- Of every needs (no more, and no longer, than are looked at): how far a node is away is how long its chain is; what the root needs is 1 away; no need leads more than one further; no condition. -/
import Derived.Test.YtdefphacdcbljaaGreatRows
import Derived.Test.YtdefphacdcbljaaGreatWhyV
import Derived.Test.YtdefphacdcbljaaGreatWhyK
import Derived.ProofKit
import Derived.OpenShut
import Derived.ShutString
import Derived.ChangeOld
namespace Go.Proofs.YtdefphacdcbljaaGreat.whyDepths
open Go.ChangeShapes Go.WideShapes Go.ChangeAt Go.RowKit
open Go.ChangeMaps (open_string shut_string)
set_option maxRecDepth 100000
set_option linter.unusedVariables false

theorem decNds (l : List Nd) : decide (l = l) = true := decide_eq_true rfl
theorem decDps (l : List Dp) : decide (l = l) = true := decide_eq_true rfl
theorem neq_self19 (z : Int) (w : World) : Sem.run Tryz.prog (binOp .neq 3 (.int .i64 z) (.int .i64 z)) w = .ok (.bool false) w := by go_simp
theorem gt_zero19 {k : Nat} (h : 0 < k) (w : World) : Sem.run Tryz.prog (binOp .gtr 3 (.int .i64 (k : Int)) (.int .i64 0)) w = .ok (.bool true) w := by
  have h1 : (0 : Int) < (k : Int) := by omega
  go_simp
theorem ld_int19 {w : World} {g i : Nat} {z : Int} (h : w.cell? ⟨g, i, none⟩ = some (.int .i64 z)) : Sem.run Tryz.prog (Instr.loadAt 3 (.pointer (some ⟨g, i, none⟩))) w = .ok (.int .i64 z) w := by go_simp
/-! ### What is found of all nodes -/
def scanS (x : Nd) (a : Int) (e : Dp) : Int := if e.1 = x then e.2 else a
def scanW (D : List Dp) (x : Nd) : Int := D.foldl (scanS x) 0
theorem scanW_map (l : List Ne) (x : Nd) : ∀ (s : List Nd) (a : Int), (s.map fun n => (n, (farW l n : Int))).foldl (scanS x) a = if x ∈ s then (farW l x : Int) else a
  | [], a => by simp
  | n :: s, a => by
    rw [List.map_cons, List.foldl_cons, scanW_map l x s]
    unfold scanS
    simp only [List.mem_cons]
    by_cases e : n = x
    · subst e
      rw [if_pos rfl]
      simp
    · rw [if_neg e]
      have : (x = n ∨ x ∈ s) ↔ x ∈ s := ⟨fun h => h.elim (fun h => absurd h.symm e) id, .inr⟩
      simp [this]
theorem scanW_all {l : List Ne} (h : mayK l = true) (x : Nd) : scanW (depW l) x = (farW l x : Int) := by
  unfold scanW depW
  rw [scanW_map]
  by_cases e : x ∈ allW l
  · rw [if_pos e]
  · rw [if_neg e]
    have : ¬ 0 < farW l x := fun q => e ((allW_mem h).2 q)
    omega
theorem scanW_take {D : List Dp} {k : Nat} (h : k < D.length) (x : Nd) : scanW (D.take (k + 1)) x = if (D.getD k zDp).1 = x then (D.getD k zDp).2 else scanW (D.take k) x := by
  unfold scanW
  have e : D.take (k + 1) = D.take k ++ [D.getD k zDp] := by rw [List.take_succ_eq_append_getElem h]; simp [List.getD_eq_getElem?_getD, h]
  rw [e, List.foldl_append]
  rfl
theorem depW_at {l : List Ne} (h : mayK l = true) {k : Nat} (hk : k < (depW l).length) : ∃ y f, (depW l).getD k zDp = (y, ((f : Nat) : Int)) ∧ farW l y = f ∧ 0 < f ∧ y = (allW l).getD k ([], []) := by
  have hk2 : k < (allW l).length := by rw [← depW_len]; exact hk
  refine ⟨(allW l)[k], farW l (allW l)[k], ?_, rfl, (allW_mem h).1 (List.getElem_mem hk2), (nd_getD hk2).symm⟩
  rw [List.getD_eq_getElem?_getD, List.getElem?_eq_getElem hk]
  simp [depW]
set_option maxRecDepth 100000 in
set_option maxHeartbeats 3200000 in
theorem walk (D : Value) (d0 : List Ne) (w : World) (hD : Nes w D d0 ∧ ∀ e ∈ d0, fitNe e) :
    Calls Tryz.prog 4 #[D] w fun e w' => e = .returned (.bool true) ∧ Below w.heap.size w w' := by
  obtain ⟨hD, fD⟩ := hD
  obtain ⟨AD, cD, rfl, -⟩ := hD.ex
  have kfD := fun V w h => lfew_any V d0 w h fD
  have hml := fewK_len d0; have hmz := fewK_small d0
  obtain ⟨mD, hmD⟩ : ∃ r, d0.length = r := ⟨_, rfl⟩
  rw [hmD] at hD ⊢
  obtain ⟨d, hd⟩ : ∃ r, fewK d0 = r := ⟨_, rfl⟩
  rw [hd] at kfD hml hmz
  obtain ⟨nd, hnd⟩ : ∃ r, d.length = r := ⟨_, rfl⟩
  rw [hnd] at hml kfD
  have hsz : ∀ x ∈ d, smallNe x := hmz
  have SUD := Lib.hid hD; have KFD := Lib.hid kfD; have HZD := Lib.hid hsz; have HND := Lib.hid hnd
  clear hD fD kfD hmz hsz hmD hd hnd
  have BB := Lib.hid (Below.refl w.heap.size w)
  have kde := fun V w h => wdeptho_any V d w h HZD.out (by rw [HND.out]; omega)
  obtain ⟨PD, hPD⟩ : ∃ E, depWE d = E := ⟨_, rfl⟩
  rw [hPD] at kde
  obtain ⟨dd, dk⟩ := PD
  simp only at kde
  obtain ⟨nD, hnD⟩ : ∃ r, dd.length = r := ⟨_, rfl⟩
  have KDE := Lib.hid kde; have HPD := Lib.hid hPD; have HNDD := Lib.hid hnD
  clear kde hPD hnD
  have e18 : ∀ args w, (callFunc 18 args).run Tryz.prog w = .ok (.enter 18 args) w := enters_of Tryz.func18 (by kernel_rfl) rfl
  go_enter Tryz.func4, Tryz.ntmps4
  go_upto_region 2 with (go_at_call 5; refine (KFD.out _ _ SUD.out).mono ?_; rintro e w9 ⟨aD, cD, rfl, hr1, hb1⟩; replace BB := Lib.hid (below_step BB.out hb1); have SD := Lib.hid hr1; clear hr1 hb1 KFD SUD)
  go_upto_region 3 with (go_at_call 7; refine (KDE.out _ _ SD.out).mono ?_; rintro e w9 ⟨v1, rfl, hr1, hb1⟩; replace SD := Lib.hid (SD.out.below hb1); replace BB := Lib.hid (below_step BB.out hb1); obtain ⟨ap, cp, rfl, hd⟩ := dpsO hr1; rw [HNDD.out] at hd ⊢; have Sp := Lib.hid hd; clear hr1 hd hb1 KDE)
  cases od : mayK d
  · have h1 := HPD.out
    rw [depE_no od] at h1
    obtain ⟨h3, rfl⟩ := Prod.mk.inj h1
    obtain rfl : nD = 0 := by rw [← HNDD.out, ← h3]; rfl
    clear h1 h3 od
    go_wp2_with (go_at_call 10; refine (wawake_any _).mono ?_; rintro e w9 ⟨rfl, hb1⟩; replace SD := Lib.hid (SD.out.below hb1); replace Sp := Lib.hid (Sp.out.below hb1); replace BB := Lib.hid (below_step BB.out hb1); clear hb1)
    go_ret
    exact ⟨rfl, BB.out⟩
  · have h1 := HPD.out
    rw [depE_yes od] at h1
    obtain ⟨h3, rfl⟩ := Prod.mk.inj h1
    have hat := fun k hk => depW_at od (k := k) hk
    have hall := scanW_all od
    rw [h3] at hat
    simp only [h3] at hall
    have hrs := allW_rises d
    have hal : (allW d).length = nD := by rw [← depW_len, h3]; exact HNDD.out
    have hfb := fun n => farW_bound od n
    rw [HND.out] at hfb
    have hsm : ∀ y, 0 < farW d y → smallN y ∧ okN y = true := fun y hy => by
      obtain ⟨x, hx, rfl⟩ := List.mem_map.1 (far_to od hy)
      exact ⟨(HZD.out x hx).2, far_ok od hy⟩
    have hch := fun y1 y2 f (hf : farW d (y1, y2) = f) (hp : 0 < f) V w h => wchaino_any V d y1 y2 w h HZD.out (by rw [HND.out]; omega) (hsm (y1, y2) (by omega)).1
    have hce := fun y (hp : 0 < farW d y) => chainE_yes od (hsm y hp).2 hp
    have hcl := fun y (hp : 0 < farW d y) => (chain_facts od hp).1
    have hstep := fun a b hm ha => farW_step od (a := a) (b := b) hm ha
    have hone := fun b => farW_one od (b := b)
    have hroot := farW_root od
    have hd30 : nD ≤ 30 := by
      have h4 := allW_len od
      rw [hal, HND.out] at h4
      omega
    have HAT := Lib.hid hat; have HALL := Lib.hid hall; have HRS := Lib.hid hrs; have HAL := Lib.hid hal; have HFB := Lib.hid hfb; have HSM := Lib.hid hsm; have HCH := Lib.hid hch; have HCE := Lib.hid hce; have HCL := Lib.hid hcl; have HSTEP := Lib.hid hstep; have HONE := Lib.hid hone; have HROOT := Lib.hid hroot
    clear h1 h3 hat hall hrs hal hfb hsm hch hce hcl hstep hone hroot od
    obtain ⟨W4, hW4⟩ : ∃ v, v = w9 := ⟨_, rfl⟩
    subst hW4
    go_wp2
    go_loopw [5] (fun i wr => ∃ k : Nat, k ≤ nD ∧ i = .int .i64 k ∧ Hid (Below W4.heap.size W4 wr)) (fun i _ => nD - (intOf i).toNat)
    case atStart => exact ⟨0, Nat.zero_le _, rfl, Lib.hid (Below.refl _ _)⟩
    case round =>
      obtain ⟨k, hk, rfl, HB⟩ := hrel
      by_cases hlt : k < nD
      · have hkl : k < dd.length := by rw [HNDD.out]; exact hlt
        obtain ⟨y, f, hyf, hfy, hfp, hya⟩ := HAT.out k hkl
        obtain ⟨bD, oD, rfl, -, hc0, hc1, hc2⟩ := (Sp.out.below HB.out).at k hkl
        rw [hyf] at hc0 hc1 hc2
        have hce := HCE.out y (by omega)
        have hcl := HCL.out y (by omega)
        have hsy := HSM.out y (by omega)
        obtain ⟨y1, y2⟩ := y
        simp only at hc0 hc1 hc2
        have hch := HCH.out y1 y2 f hfy hfp
        rw [hfy] at hce hcl
        rw [hce] at hch
        simp only [hcl] at hch
        have hfk : f ≤ 30 := by have := HFB.out (y1, y2); omega
        have SD1 := Lib.hid (SD.out.below HB.out)
        have KCH := Lib.hid hch; have HYA := Lib.hid hya; have HSY := Lib.hid hsy
        have hkb : (k : Int) < (nD : Int) := by omega
        clear hyf hfy hce hcl hsy hch hya
        go_upto_region 9 with (go_at_call 8; refine (KCH.out _ _ SD1.out).mono ?_; rintro e w5 ⟨v1, rfl, hr1, hb1⟩; obtain ⟨ac, cc, rfl⟩ := own_form19 hr1; have HB5 := Lib.hid (below_step HB.out hb1); replace hc0 := cell_keep hc0 hb1; replace hc1 := cell_keep hc1 hb1; replace hc2 := cell_keep hc2 hb1; clear hr1 hb1)
        clear KCH SD1 HB
        by_cases hk0 : k = 0
        · subst hk0
          have hz1 : decide ((0 : Int) < 0) = false := rfl
          go_quiet (fail)
          have HB6 := Lib.hid (below_step HB5.out (below_q ⟨nq, rfl⟩))
          go_wp2
          go_roundw
          case rel => exact ⟨1, by omega, by go_num, HB6⟩
          case measure => simp [intOf]; omega
        · obtain ⟨kp, hkp⟩ : ∃ t, k = t + 1 := ⟨k - 1, by omega⟩
          have hjl : kp < dd.length := by omega
          obtain ⟨x, g, hxg, hgx, hgp, hxa⟩ := HAT.out kp hjl
          obtain ⟨b', o', hbo, -, hx0, hx1, -⟩ := (Sp.out.below HB5.out).at kp hjl
          injection hbo with hbo
          injection hbo with q1 q2
          subst q1 q2
          rw [hxg] at hx0 hx1
          have hsx := HSM.out x (by omega)
          obtain ⟨x1, x2⟩ := x
          simp only at hx0 hx1
          have hless : ltN (x1, x2) (y1, y2) = true := by
            have h4 : kp < (allW d).length := by rw [HAL.out]; omega
            have h5 : k < (allW d).length := by rw [HAL.out]; omega
            rw [hxa, HYA.out, nd_getD h4, nd_getD h5]
            exact List.pairwise_iff_getElem.1 HRS.out kp k h4 h5 (by omega)
          have kle := fun w => refless_any x1 x2 y1 y2 w hsx.1.1 hsx.1.2 HSY.out.1.1 HSY.out.1.2 hsx.2 HSY.out.2
          rw [hless] at kle
          obtain ⟨wr, hwr⟩ : ∃ v, v = w5 := ⟨_, rfl⟩
          subst hwr
          have KLE := Lib.hid kle; have HLT := Lib.hid hlt; have HK0 := Lib.hid (show 0 < k by omega); have HKP := Lib.hid hkp; have HK6 := Lib.hid (show k ≤ 1000000 by omega); have HLP := Lib.hid (show kp < nD by omega)
          have HX0 := Lib.hid hx0; have HX1 := Lib.hid hx1; have HY0 := Lib.hid hc0; have HY1 := Lib.hid hc1; have HY2 := Lib.hid hc2
          clear hxg hgx hxa hsx hless kle hx0 hx1 hc0 hc1 hc2 hkp
          refine rol_run (by kernel_rfl) [[], [0], [1], [2], [2, 3], [2], [2], [2, 5, 6], [2, 7], [2, 8], [2, 4, 9], [2, 10], [11], [12], [12, 13], [12, 14], [15], [15], [15, 17], [15, 16, 18], [15, 19], [15, 20], [15], [15], [15, 22, 23], [15, 24], [15, 25], [15, 21, 26], [15, 27], [12, 15, 28], [12, 29]] (by kernel_rfl) [43, 44, 45, 46, 47, 48, 49, 50, 51, 52, 53, 54, 55, 56, 57, 58, 59, 60, 61, 62, 63, 64, 65, 66, 67, 68, 69, 70, 71, 72, 73] [[], [0], [1], [2], [2, 3], [2], [2], [2, 5, 6], [2, 7], [2, 8], [2, 4, 9], [2, 10], [11], [12], [12, 13], [12, 14], [15], [15], [15, 17], [15, 16, 18], [15, 19], [15, 20], [15], [15], [15, 22, 23], [15, 24], [15, 25], [15, 21, 26], [15, 27], [12, 15, 28], [12, 29]] (List.replicate 31 0) (List.replicate 31 0) (List.replicate 31 1000) [.val 43 (.int .i64 0), .val 44 (.bool false), .val 45 (.bool false), .val 46 (.slice ac f cc), .val 47 (.int .i64 (f : Int)), .val 48 (.slice (some ⟨bD, oD, none⟩) nD cp), .val 49 (.int .i64 (k : Int)), .val 50 (.pointer (some ⟨bD, oD + k * 3, none⟩)), .val 51 (.pointer (some ⟨bD, oD + k * 3 + 2, none⟩)), .val 52 (.int .i64 (f : Int)), .val 53 (.bool false), .val 54 (.bool false), .val 55 (.bool false), .val 56 (.int .i64 (k : Int)), .val 57 (.bool true), .val 58 (.bool true), .val 59 (.slice (some ⟨bD, oD, none⟩) nD cp), .val 60 (.int .i64 (k : Int)), .val 61 (.int .i64 (kp : Int)), .val 62 (.pointer (some ⟨bD, oD + kp * 3, none⟩)), .val 63 (.pointer (some ⟨bD, oD + kp * 3, none⟩)), .val 64 (.agg #[.string (mkB x1), .string (mkB x2)]), .val 65 (.slice (some ⟨bD, oD, none⟩) nD cp), .val 66 (.int .i64 (k : Int)), .val 67 (.pointer (some ⟨bD, oD + k * 3, none⟩)), .val 68 (.pointer (some ⟨bD, oD + k * 3, none⟩)), .val 69 (.agg #[.string (mkB y1), .string (mkB y2)]), .val 70 (.bool true), .val 71 (.bool false), .val 72 (.bool false), .val 73 (.bool false)] (by kernel_rfl) ?_ (wr.heap.size) (wr.heap.size) rfl (Below.refl _ _) rfl (fun _ => 0) ?_ ?_ ?_
          · intro j hj
            have hj3 : j < 31 := hj
            clear hj
            revert j
            iterate 31 refine lt_step ?_ ?_
            · exact lt_none
            all_goals exact trivial
          · intro j hj0 hj
            exact absurd hj (Nat.not_lt.2 hj0)
          · intro i hi
            have hi3 : i < 31 := hi
            clear hi
            revert i
            iterate 31 refine lt_step ?_ ?_
            · exact lt_none
            all_goals intro a wx who hG hF
            all_goals have hz : a.tmps.size = 144 := hG.size
            · exact rv rfl rfl rfl hz rfl (ex_move (Or.inl rfl) (eval_slot ((hG.slots 7 (by decide)).trans rfl))) hG
            · exact rv rfl rfl rfl hz rfl (ex_bin rfl (ev hF 0 rfl rfl) rfl (by go_simp) (by go_simp)) hG
            · exact rv rfl rfl rfl hz rfl (ex_move (Or.inl rfl) (ev hF 1 rfl rfl)) hG
            · exact ry rfl hF 2 rfl rfl rfl rfl rfl hz rfl (ex_move (Or.inl rfl) (eval_slot ((hG.slots 6 (by decide)).trans rfl))) hG
            · exact ry rfl hF 2 rfl rfl rfl rfl rfl hz rfl (ex_len rfl (ev hF 3 rfl rfl) (by go_simp)) hG
            · exact ry rfl hF 2 rfl rfl rfl rfl rfl hz rfl (ex_move (Or.inl rfl) (eval_slot ((hG.slots 3 (by decide)).trans rfl))) hG
            · exact ry rfl hF 2 rfl rfl rfl rfl rfl hz rfl (ex_move (Or.inl rfl) (eval_slot ((hG.slots 5 (by decide)).trans rfl))) hG
            · exact ry rfl hF 2 rfl rfl rfl rfl rfl hz rfl (ex_index rfl (ev hF 5 rfl rfl) (ev hF 6 rfl rfl) (idx_dp HLT.out)) hG
            · exact ry rfl hF 2 rfl rfl rfl rfl rfl hz rfl (ex_field rfl (ev hF 7 rfl rfl) fld2_dp) hG
            · exact ry rfl hF 2 rfl rfl rfl rfl rfl hz rfl (ex_load rfl (ev hF 8 rfl rfl) (ld_int19 (cell_keep HY2.out hG.below))) hG
            · exact ry rfl hF 2 rfl rfl rfl rfl rfl hz rfl (ex_bin rfl (ev hF 4 rfl rfl) (ev hF 9 rfl rfl) (by go_simp) (neq_self19 _ wx)) hG
            · exact rv rfl rfl rfl hz rfl (ex_pick_no rfl (ev hF 2 rfl rfl) (ev hF 10 rfl rfl)) hG
            · exact rv rfl rfl rfl hz rfl (ex_move (Or.inl rfl) (ev hF 11 rfl rfl)) hG
            · exact ry rfl hF 12 rfl rfl rfl rfl rfl hz rfl (ex_move (Or.inl rfl) (eval_slot ((hG.slots 5 (by decide)).trans rfl))) hG
            · exact ry rfl hF 12 rfl rfl rfl rfl rfl hz rfl (ex_bin rfl (ev hF 13 rfl rfl) rfl (by go_simp) (gt_zero19 HK0.out wx)) hG
            · exact ry rfl hF 12 rfl rfl rfl rfl rfl hz rfl (ex_move (Or.inl rfl) (ev hF 14 rfl rfl)) hG
            · exact ry rfl hF 15 rfl rfl rfl rfl rfl hz rfl (ex_move (Or.inl rfl) (eval_slot ((hG.slots 3 (by decide)).trans rfl))) hG
            · exact ry rfl hF 15 rfl rfl rfl rfl rfl hz rfl (ex_move (Or.inl rfl) (eval_slot ((hG.slots 5 (by decide)).trans rfl))) hG
            · exact ry rfl hF 15 rfl rfl rfl rfl rfl hz rfl (ex_bin rfl (ev hF 17 rfl rfl) rfl (by go_simp) (sub_one19 HKP.out HK6.out wx)) hG
            · exact ry rfl hF 15 rfl rfl rfl rfl rfl hz rfl (ex_index rfl (ev hF 16 rfl rfl) (ev hF 18 rfl rfl) (idx_dp HLP.out)) hG
            · exact ry rfl hF 15 rfl rfl rfl rfl rfl hz rfl (ex_field rfl (ev hF 19 rfl rfl) fld_dp) hG
            · exact ry rfl hF 15 rfl rfl rfl rfl rfl hz rfl (ex_load rfl (ev hF 20 rfl rfl) (ld_node (cell_keep HX0.out hG.below) (cell_keep HX1.out hG.below))) hG
            · exact ry rfl hF 15 rfl rfl rfl rfl rfl hz rfl (ex_move (Or.inl rfl) (eval_slot ((hG.slots 3 (by decide)).trans rfl))) hG
            · exact ry rfl hF 15 rfl rfl rfl rfl rfl hz rfl (ex_move (Or.inl rfl) (eval_slot ((hG.slots 5 (by decide)).trans rfl))) hG
            · exact ry rfl hF 15 rfl rfl rfl rfl rfl hz rfl (ex_index rfl (ev hF 22 rfl rfl) (ev hF 23 rfl rfl) (idx_dp HLT.out)) hG
            · exact ry rfl hF 15 rfl rfl rfl rfl rfl hz rfl (ex_field rfl (ev hF 24 rfl rfl) fld_dp) hG
            · exact ry rfl hF 15 rfl rfl rfl rfl rfl hz rfl (ex_load rfl (ev hF 25 rfl rfl) (ld_node (cell_keep HY0.out hG.below) (cell_keep HY1.out hG.below))) hG
            · refine rol_call rfl (want_yes rfl rfl (hF 15 (by decide))) rfl (by rw [hz]; decide) (ex_call rfl (by simp [eval_slot (hF 21 (by decide)), eval_slot (hF 26 (by decide))]) e18) (KLE.out wx) ?_ hG.below hG.new
              rintro e w1 ⟨rfl, hd1⟩
              exact ⟨_, rfl, hd1, .inl rfl⟩
            · exact ry rfl hF 15 rfl rfl rfl rfl rfl hz rfl (ex_un rfl (ev hF 27 rfl rfl) rfl) hG
            · exact ry rfl hF 12 rfl rfl rfl rfl rfl hz rfl (ex_pick_yes rfl (ev hF 15 rfl rfl) (ev hF 28 rfl rfl)) hG
            · exact rv rfl rfl rfl hz rfl (ex_pick_no rfl (ev hF 12 rfl rfl) (ev hF 29 rfl rfl)) hG
          · intro a wx who hG hF
            have fv73 : a.tmps.getD 73 undef = .bool false := eval_slot (s := 73) (hF 30 (of_decide_eq_true (by kernel_rfl)) (of_decide_eq_true (by kernel_rfl)))
            have hbx := hG.below
            have hnx := hG.new
            rw [hG.frame]
            simp only [List.foldl_cons, List.foldl_nil, List.setIfInBounds_toArray, List.set_cons_zero, List.set_cons_succ]
            rw [fv73]
            generalize Array.getD a.tmps = uu
            clear hF hG fv73
            have HB6 := Lib.hid (below_step HB5.out hbx)
            clear hbx hnx
            go_wp2
            go_roundw
            case rel => exact ⟨k + 1, by omega, by go_num, HB6⟩
            case measure => simp [intOf]; omega
      · obtain ⟨W5, hW5⟩ : ∃ v, v = wr := ⟨_, rfl⟩
        subst hW5
        have e : nD = k := by omega
        subst e
        have SD5 := Lib.hid (SD.out.below HB.out); have SP5 := Lib.hid (Sp.out.below HB.out); have BB5 := Lib.hid (below_step BB.out HB.out)
        have hgd := guard_nd
        clear HAT HCH HCE HCL HRS HSM SD Sp BB HB
        go_wp2
        go_loopw [8] (fun i wr => ∃ j : Nat, j ≤ nd ∧ i = .int .i64 j ∧ Hid (Below W5.heap.size W5 wr)) (fun i _ => nd - (intOf i).toNat)
        case atStart => exact ⟨0, Nat.zero_le _, rfl, Lib.hid (Below.refl _ _)⟩
        case round =>
          obtain ⟨j, hj, rfl, HB2⟩ := hrel
          by_cases hltj : j < nd
          · have hjl : j < d.length := by rw [HND.out]; exact hltj
            obtain ⟨bE, oE, rfl, -, hd0, hd1, hd2, hd3⟩ := (SD5.out.below HB2.out).at j hjl
            have hmem := ne_mem hjl
            obtain ⟨y, hy⟩ : ∃ y, y = d.getD j zNe := ⟨_, rfl⟩
            rw [← hy] at hd0 hd1 hd2 hd3 hmem
            obtain ⟨⟨f1, f2⟩, t1, t2⟩ := y
            simp only at hd0 hd1 hd2 hd3
            have hst := HSTEP.out (f1, f2) (t1, t2) hmem
            have hon := (HONE.out (t1, t2)).2
            have hfb1 := HFB.out (f1, f2); have hfb2 := HFB.out (t1, t2)
            have hrt : (f1, f2) = (([], []) : Nd) → farW d (f1, f2) = 0 ∧ farW d (t1, t2) = 1 := fun e => ⟨by rw [e]; exact HROOT.out, hon (by rw [← show (f1, f2) = rootN from e]; exact hmem)⟩
            obtain ⟨fr, hfr⟩ : ∃ n, farW d (f1, f2) = n := ⟨_, rfl⟩
            obtain ⟨tw, htw⟩ : ∃ n, farW d (t1, t2) = n := ⟨_, rfl⟩
            have ha1 := HALL.out (f1, f2); have ha2 := HALL.out (t1, t2)
            rw [hfr] at ha1 hst hfb1 hrt
            rw [htw] at ha2 hst hfb2 hrt
            obtain ⟨W6, hW6⟩ : ∃ v, v = wr := ⟨_, rfl⟩
            subst hW6
            have HD0 := Lib.hid hd0; have HD1 := Lib.hid hd1; have HD2 := Lib.hid hd2; have HD3 := Lib.hid hd3; have HST := Lib.hid hst; have HRT := Lib.hid hrt; have HA1 := Lib.hid ha1; have HA2 := Lib.hid ha2
            have SP6 := Lib.hid (SP5.out.below HB2.out)
            have hjb : (j : Int) < (nd : Int) := by omega
            clear hy hmem hst hon hrt hfr htw ha1 ha2 hd0 hd1 hd2 hd3
            go_wp2
            go_loopw [9, 10, 11] (fun a b i wr => ∃ (m : Nat) (fa fb : Int), a = .int .i64 fa ∧ b = .int .i64 fb ∧ m ≤ nD ∧ i = .int .i64 m ∧ Hid (fa = scanW (dd.take m) (f1, f2)) ∧ Hid (fb = scanW (dd.take m) (t1, t2)) ∧ Hid (Below W6.heap.size W6 wr)) (fun _ _ i _ => nD - (intOf i).toNat)
            case atStart => exact ⟨0, 0, 0, rfl, rfl, Nat.zero_le _, rfl, Lib.hid rfl, Lib.hid rfl, Lib.hid (Below.refl _ _)⟩
            case round =>
              obtain ⟨m, fa, fb, rfl, rfl, hm, rfl, HFA, HFC, HB3⟩ := hrel
              by_cases hltm : m < nD
              · have hml2 : m < dd.length := by rw [HNDD.out]; exact hltm
                obtain ⟨bD, oD, rfl, -, hc0, hc1, hc2⟩ := (SP6.out.below HB3.out).at m hml2
                have hta := scanW_take hml2 (f1, f2)
                have htb := scanW_take hml2 (t1, t2)
                obtain ⟨y, hy⟩ : ∃ y, y = dd.getD m zDp := ⟨_, rfl⟩
                rw [← hy] at hc0 hc1 hc2 hta htb
                obtain ⟨⟨z1, z2⟩, z⟩ := y
                simp only at hc0 hc1 hc2 hta htb
                have hd0 := cell_keep HD0.out HB3.out; have hd1 := cell_keep HD1.out HB3.out; have hd2 := cell_keep HD2.out HB3.out; have hd3 := cell_keep HD3.out HB3.out
                obtain ⟨E1, hE1⟩ : ∃ E, decide ((z1, z2) = (f1, f2)) = E := ⟨_, rfl⟩
                obtain ⟨E2, hE2⟩ : ∃ E, decide ((z1, z2) = (t1, t2)) = E := ⟨_, rfl⟩
                have q1 : ∀ w, Sem.run Tryz.prog (binOp .eql 24 (.agg #[.string (mkB z1), .string (mkB z2)]) (.agg #[.string (mkB f1), .string (mkB f2)])) w = .ok (.bool E1) w := fun w => by rw [← hE1]; exact eq_nd z1 z2 f1 f2 w
                have q2 : ∀ w, Sem.run Tryz.prog (binOp .eql 24 (.agg #[.string (mkB z1), .string (mkB z2)]) (.agg #[.string (mkB t1), .string (mkB t2)])) w = .ok (.bool E2) w := fun w => by rw [← hE2]; exact eq_nd z1 z2 t1 t2 w
                have HTA := Lib.hid (show scanW (dd.take (m + 1)) (f1, f2) = if E1 = true then z else fa from by
                  rw [hta, HFA.out]
                  cases E1
                  · rw [if_neg (of_decide_eq_false hE1), if_neg (by decide)]
                  · rw [if_pos (of_decide_eq_true hE1), if_pos rfl])
                have HTB := Lib.hid (show scanW (dd.take (m + 1)) (t1, t2) = if E2 = true then z else fb from by
                  rw [htb, HFC.out]
                  cases E2
                  · rw [if_neg (of_decide_eq_false hE2), if_neg (by decide)]
                  · rw [if_pos (of_decide_eq_true hE2), if_pos rfl])
                have hmb : (m : Int) < (nD : Int) := by omega
                clear hy hta htb hE1 hE2
                cases E1
                all_goals
                  go_upto_region 18 with fail
                  go_quiet (fail)
                  obtain ⟨W7, hW7⟩ : ∃ v, v = wr.drewN nq := ⟨_, rfl⟩
                  rw [← hW7]
                  have hq := below_q (w := wr) ⟨nq, hW7⟩
                  replace hc0 := cell_keep hc0 hq; replace hc1 := cell_keep hc1 hq; replace hc2 := cell_keep hc2 hq; replace hd0 := cell_keep hd0 hq; replace hd1 := cell_keep hd1 hq; replace hd2 := cell_keep hd2 hq; replace hd3 := cell_keep hd3 hq
                  replace HB3 := Lib.hid (below_step HB3.out hq)
                  clear hW7 hq
                  go_upto_region 20 with fail
                  cases E2
                  all_goals
                    go_quiet (fail)
                    obtain ⟨W8, hW8⟩ : ∃ v, v = W7.drewN nq := ⟨_, rfl⟩
                    rw [← hW8]
                    have hq := below_q (w := W7) ⟨nq, hW8⟩
                    replace hc0 := cell_keep hc0 hq; replace hc1 := cell_keep hc1 hq; replace hc2 := cell_keep hc2 hq
                    replace HB3 := Lib.hid (below_step HB3.out hq)
                    clear hW8 hq
                    go_wp2
                    go_roundw
                    case rel => exact ⟨m + 1, _, _, rfl, rfl, by omega, by go_num, Lib.hid (by rw [HTA.out]; simp), Lib.hid (by rw [HTB.out]; simp), HB3⟩
                    case measure => simp [intOf]; omega
              · have e : nD = m := by omega
                subst e
                have htk := List.take_of_length_le (i := nD) (l := dd) (by rw [HNDD.out]; exact Nat.le_refl _)
                have hfa := HFA.out; have hfc := HFC.out
                rw [htk, HA1.out] at hfa
                rw [htk, HA2.out] at hfc
                subst hfa hfc
                have hd0 := cell_keep HD0.out HB3.out; have hd1 := cell_keep HD1.out HB3.out
                obtain ⟨R, hR⟩ : ∃ R, decide ((f1, f2) = (([], []) : Nd)) = R := ⟨_, rfl⟩
                have q3 := fun w => eq_ndz f1 f2 w
                rw [hR] at q3
                have HBN := Lib.hid (below_step HB2.out HB3.out)
                clear htk HFA HFC
                cases R
                · by_cases h0 : fr = 0
                  · subst h0
                    clear HST HRT hR
                    go_wp2
                    go_roundw
                    case rel => exact ⟨j + 1, by omega, by go_num, HBN⟩
                    case measure => simp [intOf]; omega
                  · obtain ⟨s1, s2⟩ := HST.out (.inr (by omega))
                    have hx0 : (0 : Int) < (fr : Int) := by omega
                    have hx1 : ((tw : Int) == 0) = false := beq_eq_false_iff_ne.2 (by omega)
                    have hx2 : ¬ ((fr : Int) + 1 < (tw : Int)) := by omega
                    clear HST HRT hR s1 s2 h0
                    go_wp2
                    go_roundw
                    case rel => exact ⟨j + 1, by omega, by go_num, HBN⟩
                    case measure => simp [intOf]; omega
                · obtain ⟨s1, s2⟩ := HRT.out (of_decide_eq_true hR)
                  subst s1 s2
                  clear HST HRT hR
                  go_wp2
                  go_roundw
                  case rel => exact ⟨j + 1, by omega, by go_num, HBN⟩
                  case measure => simp [intOf]; omega
          · clear SD5 SP5 HALL HFB HSTEP HONE HROOT
            go_wp2_with (go_at_call 10; refine (wawake_any _).mono ?_; rintro e w9 ⟨rfl, hb1⟩; have BE := Lib.hid (below_step (below_step BB5.out HB2.out) hb1); clear hb1)
            go_ret
            exact ⟨rfl, BE.out⟩

theorem own : ownKnob Tryz.prog.godebug = none := by kernel_rfl
theorem laidOut : laidOutB Tryz.prog = true := by kernel_rfl

set_option maxRecDepth 100000 in
theorem lifted (os : Os) (started : os.Started) (H : Type) (enc : TypeId × Value → H) :
    ReturnsInHanded {} Tryz.checked os 4 .any (Rows.whyDepthsSpec.pre6 enc Tryz.prog Tryz.f4 Rows.whyDepthsRow.domain false) (Rows.whyDepthsSpec.post enc Tryz.prog Tryz.f4 false true false false) := by
  refine returnsInHanded_of_change (C := Tryz.checked) own started (by kernel_rfl) Tryz.func4
    (ChangeSpec.witness6 (enc := enc) (C := Tryz.checked) false ⟨#[], #[.slice none 0 0], []⟩ 8 (by kernel_rfl) (by kernel_rfl) (by kernel_rfl) (by kernel_rfl)) ?_
  intro W base args ds gs before hval0 hW hcnd _
  have hval : ∀ (j : Nat) t v, Tryz.f4.params[j]? = some t → args[j]? = some v → Value.okWide Tryz.prog W .any base t v := hval0
  have hW' := hW
  obtain ⟨p, q, hA0, hV, rfl, hfz, hnd⟩ := hW
  have hA : DataW.TrodAll enc Tryz.prog W 0 (fun _ => true) true Tryz.f4.params.toList args.toList ds p := hA0
  rw [Tryz.params4] at hA hval
  obtain ⟨v0, vs0, d0, ds0, p0, q0, hargs, rfl, rfl, h0, r0⟩ := trodAll_cons hA
  obtain ⟨rfl, rfl, rfl⟩ := trodAll_nil r0
  obtain rfl : args = #[v0] := by cases args; simp_all
  obtain ⟨rfl, rfl⟩ := trodVars_none hV
  obtain ⟨a0, len0, cap0, rfl⟩ := okWide_slice Tryz.underlying22 (hval 0 22 v0 rfl rfl)
  have k0 := h0
  have lt0 : ∀ x ∈ p0, x.block < W.heap.size := by obtain ⟨m, hm⟩ := k0; exact DataW.trod_lt m _ _ _ hm
  obtain ⟨z0, w0⟩ : ∃ zs, Nes W (.slice a0 len0 cap0) zs ∧ ∀ e ∈ zs, fitNe e := by
    obtain ⟨fuel, hf⟩ := h0
    exact nes_open (by simpa [Value.cells] using hf)
  clear hA0 hval0
  refine (walk _ z0 W w0).mono fun e W' ⟨he, bel⟩ => ?_
  subst he
  exact ⟨_, rfl, _, _, _, [], _, [], hW', trodAll_mk1 (shut_bool Tryz.underlying4 _), (trodAll_cons_mk (Below.trod laidOut (by kernel_rfl) (of_decide_eq_true (by kernel_rfl)) k0 bel lt0) trodAll_mk0), rfl, bel.frame _, fun h => by cases h⟩

-- the given statement
theorem proved : Rows.WhyDepthsSaid :=
  OpenClaim.holds_of_wide 4 Tryz.f4 rfl rfl rfl rfl rfl rfl rfl ⟨rfl, rfl, rfl, rfl, rfl⟩ rfl rfl rfl rfl rfl (by kernel_rfl) Tryz.func4 (by kernel_rfl)
    (of_decide_eq_true (by kernel_rfl)) (by unfold Func.isWrapper; first | (rw [if_pos (by decide +kernel)]; kernel_rfl) | (rw [if_neg (by decide +kernel)]; exact ⟨rfl, rfl⟩))
    (fun os started H enc _ => lifted os started H enc)
end Go.Proofs.YtdefphacdcbljaaGreat.whyDepths
