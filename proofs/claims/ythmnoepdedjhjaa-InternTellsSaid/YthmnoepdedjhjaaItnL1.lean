/- Of every names, every node and every list of numbers (no more, and no longer, than are looked at): which names may be, the node's number, there, and given, and the numbers' nodes, or why not, are as the document says; no condition. -/
import Derived.Test.YthmnoepdedjhjaaRows
import Derived.Test.YthmnoepdedjhjaaItnV
import Derived.Test.YthmnoepdedjhjaaRolN
import Derived.Deep.CutRange
import Derived.Deep.DeepCutAuto
import Derived.ProofKit
import Derived.OpenShut
import Derived.ShutString
import Derived.ChangeOld
namespace Go.Proofs.Ythmnoepdedjhjaa.internTells
open Go.ChangeShapes Go.WideShapes Go.ChangeAt Go.RowKit
open Go.ChangeMaps (open_string shut_string)
set_option maxRecDepth 100000
set_option linter.unusedVariables false

theorem bin_lss0 {w : World} {z : Int} {b : Bool} (h : decide (z < 0) = b) : Sem.run Try.prog (binOp .lss 3 (.int .i64 z) (.int .i64 0)) w = .ok (.bool b) w := by
  rw [← h]
  go_simp
theorem bin_geq {w : World} {z : Int} {n : Nat} {b : Bool} (h : decide ((n : Int) ≤ z) = b) : Sem.run Try.prog (binOp .geq 3 (.int .i64 z) (.int .i64 (n : Int))) w = .ok (.bool b) w := by
  rw [← h]
  go_simp
/-- The nodes of those numbers that are some. -/
theorem want_none {l : List Nd} {zs : List Int} {n k : Nat} (hk : k < zs.length) (h : inM n (zs.getD k 0) = false) : (zs.take (k + 1)).filter (inM n) = (zs.take k).filter (inM n) ∧ (zs.take (k + 1)).all (inM n) = false := by
  rw [zs_take hk, List.filter_append, List.all_append]
  generalize zs.getD k 0 = z at h ⊢
  simp [h]
theorem want_some {zs : List Int} {n k : Nat} (hk : k < zs.length) (h : inM n (zs.getD k 0) = true) : (zs.take (k + 1)).filter (inM n) = (zs.take k).filter (inM n) ++ [zs.getD k 0] ∧ (zs.take (k + 1)).all (inM n) = (zs.take k).all (inM n) := by
  rw [zs_take hk, List.filter_append, List.all_append]
  generalize zs.getD k 0 = z at h ⊢
  simp [h]
theorem pickM_snoc (l : List Nd) (zs : List Int) (k : Nat) : pickM l (zs ++ [(k : Int)]) = pickM l zs ++ [l.getD k ([], [])] := by
  simp [pickM]
theorem filter_all {zs : List Int} {n : Nat} (h : zs.all (inM n) = true) : zs.filter (inM n) = zs := List.filter_eq_self.2 (List.all_eq_true.1 h)

set_option maxRecDepth 100000 in
set_option maxHeartbeats 6400000 in
theorem walk (M : Value) (m : List Nd) (V : Value) (n : Nd) (U : Value) (ids : List Int) (w : World) (hM : (∃ V, M = .agg #[V] ∧ Nds w V m) ∧ ∀ n ∈ m, fitsN n) (hV : V = .agg #[.string (mkB n.1), .string (mkB n.2)] ∧ fitsN n) (hU : Ints w U ids) :
    Calls Try.prog 3 #[M, V, U] w fun e w' => e = .returned (.bool true) ∧ Below w.heap.size w w' := by
  obtain ⟨⟨M0, rfl, hM⟩, fM⟩ := hM
  obtain ⟨rfl, fV⟩ := hV
  obtain ⟨n1, n2⟩ := n
  dsimp only at fV ⊢
  obtain ⟨ma, mc, rfl, -⟩ := hM.ex
  obtain ⟨za, zc, rfl, hzc, hzc2, -⟩ := hU.ex
  unfold maxLen at hzc2
  obtain ⟨mm, hmm⟩ : ∃ ml, m.length = ml := ⟨_, rfl⟩
  obtain ⟨zl, hzl⟩ : ∃ ml, ids.length = ml := ⟨_, rfl⟩
  rw [hmm] at hM ⊢; rw [hzl] at hU hzc ⊢
  obtain ⟨zk, hzk⟩ : ∃ k, (ids.take 12).length = k := ⟨_, rfl⟩
  have hz12 : zk = min 12 zl := by rw [← hzk, List.length_take, hzl]
  have hZ : Ints w (.slice za zk zc) (ids.take 12) := by
    by_cases h : zl ≤ 12
    · have e : zk = zl := by omega
      rw [e, List.take_of_length_le (by omega)]; exact hU
    · have e : zk = 12 := by omega
      rw [e]; exact hU.cut 12 (by omega)
  obtain ⟨zs, hzs⟩ : ∃ z, ids.take 12 = z := ⟨_, rfl⟩
  rw [hzs] at hZ hzk
  have hzk12 : zk ≤ 12 := by omega
  obtain ⟨W, g, g', hW, hg, hg', hr0, hr1, hb⟩ : ∃ W g g', (w.alloc (.cells #[.slice ma mm mc] 24)).alloc (.cells #[.string (mkB n1), .string (mkB n2)] 26) = W ∧ w.heap.size = g ∧ w.heap.size + 1 = g' ∧ W.heap[g]? = some (.cells #[.slice ma mm mc] 24 (0, 0)) ∧ W.heap[g']? = some (.cells #[.string (mkB n1), .string (mkB n2)] 26 (0, 0)) ∧ Below w.heap.size w W :=
    ⟨_, _, _, rfl, rfl, rfl, by rw [Below.heap_alloc _ _ _ (by simp)]; exact heap_alloc_new _ _, by have := heap_alloc_new (w.alloc (.cells #[.slice ma mm mc] 24)) (.cells #[.string (mkB n1), .string (mkB n2)] 26); simpa using this, ((Below.refl _ _).alloc (Nat.le_refl _) _).alloc (by simp) _⟩
  have k0 := fun U w h => ifew_any U m w h fM
  have k1 := fun w => one_any n1 n2 w fV.1 fV.2
  have hsm : smallN (fewL n1, fewL n2) := oneN_small (n1, n2)
  obtain ⟨p1, hp1⟩ : ∃ p, fewL n1 = p := ⟨_, rfl⟩
  obtain ⟨p2, hp2⟩ : ∃ p, fewL n2 = p := ⟨_, rfl⟩
  rw [hp1, hp2] at k1 hsm
  have slx := fewNs_len m
  have smx := fewNs_small m
  obtain ⟨x, hx⟩ : ∃ x, fewNs m = x := ⟨_, rfl⟩
  rw [hx] at k0 slx smx
  obtain ⟨i, hi⟩ : ∃ k, x.length = k := ⟨_, rfl⟩
  rw [hi] at k0 slx
  have HI := Lib.hid hi; have HZK := Lib.hid hzk; have SMX := Lib.hid smx; have HSM := Lib.hid hsm; have B := Lib.hid hb; have SM := Lib.hid hM; have SZ := Lib.hid hZ; have HR0 := Lib.hid hr0; have HR1 := Lib.hid hr1; have HG := Lib.hid hg; have HG' := Lib.hid hg'; have HW := Lib.hid hW
  have NE := Lib.hid (show g' ≠ g by omega); have HGE := Lib.hid (show w.heap.size ≤ g' by omega); have HWN := Lib.hid hb.size
  have HZ12 := Lib.hid hz12; have HZC := Lib.hid hzc
  clear hi hzk smx hsm hb hM hU hZ hr0 hr1 hg hg' hW hx hmm hzl hzs hp1 hp2 fM fV hz12
  have k5 := fun U w h => ifind_any U x p1 p2 w h SMX.out HSM.out
  have k6 := fun U w h => iid_any U x p1 p2 w h SMX.out HSM.out (by rw [HI.out]; omega)
  have k7 := fun U U' w h h' => iat_any U U' x zs w h h' SMX.out (by rw [HZK.out]; omega)
  have kC := fun U w h => icheck_any U x w h SMX.out
  have kM := fun U w h => refimay_any U x w h SMX.out
  obtain ⟨P1, hP1⟩ : ∃ z : Int, ((findM x (p1, p2)).1 : Int) = z := ⟨_, rfl⟩
  obtain ⟨P2, hP2⟩ : ∃ z, (findM x (p1, p2)).2 = z := ⟨_, rfl⟩
  obtain ⟨Q1, hQ1⟩ : ∃ z : Int, ((idM x (p1, p2)).1 : Int) = z := ⟨_, rfl⟩
  obtain ⟨Q2, hQ2⟩ : ∃ z, (idM x (p1, p2)).2.1 = z := ⟨_, rfl⟩
  obtain ⟨Q3, hQ3⟩ : ∃ z, (idM x (p1, p2)).2.2 = z := ⟨_, rfl⟩
  obtain ⟨A1, hA1⟩ : ∃ z, (atM x zs).1 = z := ⟨_, rfl⟩
  obtain ⟨A2, hA2⟩ : ∃ z, (atM x zs).2 = z := ⟨_, rfl⟩
  obtain ⟨q2, hq2⟩ : ∃ k, Q2.length = k := ⟨_, rfl⟩
  obtain ⟨a1, ha1⟩ : ∃ k, A1.length = k := ⟨_, rfl⟩
  simp only [hP1, hP2] at k5
  simp only [hQ1, hQ2, hQ3, hq2] at k6
  simp only [hA1, hA2, ha1] at k7
  have HP1 := Lib.hid hP1; have HP2 := Lib.hid hP2; have HQ1 := Lib.hid hQ1; have HQ2 := Lib.hid hQ2; have HQ3 := Lib.hid hQ3; have HA1 := Lib.hid hA1; have HA2 := Lib.hid hA2; have HQL := Lib.hid hq2; have HAL := Lib.hid ha1
  clear hP1 hP2 hQ1 hQ2 hQ3 hA1 hA2 hq2 ha1
  obtain ⟨om, hom⟩ : ∃ o, okM x = o := ⟨_, rfl⟩
  obtain ⟨on, hon⟩ : ∃ o, okN (p1, p2) = o := ⟨_, rfl⟩
  rw [chkM_of hom] at kC
  rw [hom] at kM
  have HOM := Lib.hid hom; have HON := Lib.hid hon
  clear hom hon
  have e8 : ∀ args w, (callFunc 8 args).run Try.prog w = .ok (.enter 8 args) w := enters_of Try.func8 (by kernel_rfl) rfl
  have e9 : ∀ args w, (callFunc 9 args).run Try.prog w = .ok (.enter 9 args) w := enters_of Try.func9 (by kernel_rfl) rfl
  have e13 : ∀ args w, (callFunc 13 args).run Try.prog w = .ok (.enter 13 args) w := enters_of Try.func13 (by kernel_rfl) rfl
  have e14 : ∀ args w, (callFunc 14 args).run Try.prog w = .ok (.enter 14 args) w := enters_of Try.func14 (by kernel_rfl) rfl
  go_enter Try.func3, Try.ntmps3
  go_upto_region 1 with fail
  rw [HW.out, HG'.out, HG.out]
  refine rol_run (by kernel_rfl) [[], [0], [], [0, 1, 2], [0, 1, 2, 3], [0, 1, 2, 3, 4]] (by kernel_rfl) [19, 20, 21, 22] [[6], [0], [7], [2], [1, 6], [3, 7]] [0, 1, 0, 0, 100, 101, 100, 101] [0, 1, 0, 0, 100, 101] [1000, 1000, 1000, 1000, 1000, 1000, 4, 5] [.val 19 (.agg #[.slice ma mm mc]), .mem 20 (aggP W.heap.size i x), .val 21 (.agg #[.string (mkB n1), .string (mkB n2)]), .val 22 (.agg #[.string (mkB p1), .string (mkB p2)]), .mem 20 (boxP g 24), .box (g') (.cells #[.string (mkB p1), .string (mkB p2)] 26), .box (g) (.cells #[.slice ma mm mc] 24), .box (g') (.cells #[.string (mkB n1), .string (mkB n2)] 26)] (by kernel_rfl) ?_ (w.heap.size) (W.heap.size) rfl B.out rfl (fun k => if k = g then 100 else 101) ?_ ?_ ?_
  · intro j hj
    have hj3 : j < 8 := hj
    have hj2 : j = 0 ∨ j = 1 ∨ j = 2 ∨ j = 3 ∨ j = 4 ∨ j = 5 ∨ j = 6 ∨ j = 7 := by omega
    clear hj hj3
    rcases hj2 with rfl | rfl | rfl | rfl | rfl | rfl | rfl | rfl
    · exact trivial
    · exact aggP_near
    · exact trivial
    · exact trivial
    · exact boxP_near
    · exact trivial
    · exact trivial
    · exact trivial
  · intro j hj0 hj
    have hj1 : 6 ≤ j := hj0
    have hj3 : j < 8 := hj
    have hj2 : j = 6 ∨ j = 7 := by omega
    clear hj0 hj hj1 hj3
    rcases hj2 with rfl | rfl
    · exact ⟨HR0.out, if_pos rfl⟩
    · exact ⟨HR1.out, (by show (if g' = g then 100 else 101) = 101; rw [if_neg NE.out])⟩
  · intro i hi a wx who hG hF
    have hz : a.tmps.size = 216 := hG.size
    have hi3 : i < 6 := hi
    have hi2 : i = 0 ∨ i = 1 ∨ i = 2 ∨ i = 3 ∨ i = 4 ∨ i = 5 := by omega
    clear hi hi3
    rcases hi2 with rfl | rfl | rfl | rfl | rfl | rfl
    · exact rol_val rfl rfl rfl (by rw [hz]; decide) (ex_load rfl (eval_slot ((hG.slots 3 (by decide)).trans rfl)) (ldm_names (row1 (hF 6 (by decide)).1).1)) hG.below
    · refine rol_call rfl rfl rfl (by rw [hz]; decide) (ex_call rfl (by simp [eval_slot (hF 0 (by decide))]) e8) (k0 _ wx (SM.out.below hG.below)) ?_ hG.below (Nat.le_trans HWN.out hG.new)
      rintro e w1 ⟨vn, rfl, hown, hb1⟩
      exact ⟨_, rfl, hb1, .inr ⟨_, vn.ownBlock, rfl, fun b e => ⟨(hown.lt b e).1, (hown.lt b e).2⟩, vn, rfl, row_base hown hG.new, rfl⟩⟩
    · exact rol_val rfl rfl rfl (by rw [hz]; decide) (ex_load rfl (eval_slot ((hG.slots 4 (by decide)).trans rfl)) (ldn_node (row2 (hF 7 (by decide)).1).1 (row2 (hF 7 (by decide)).1).2.1)) hG.below
    · refine rol_call rfl rfl rfl (by rw [hz]; decide) (ex_call rfl (by simp [eval_slot (hF 2 (by decide))]) e9) (k1 wx) ?_ hG.below (Nat.le_trans HWN.out hG.new)
      rintro e w1 ⟨rfl, hb1⟩
      exact ⟨_, rfl, hb1, .inl rfl⟩
    · exact rol_box_nd rfl rfl rfl rfl (eval_slot ((hG.slots 3 (by decide)).trans rfl)) HI.out.symm (hF 1 (by decide)) (hF 6 (by decide)) hG.below (Nat.le_of_eq HG.out)
    · exact rol_store rfl rfl rfl (ex_store rfl (eval_slot ((hG.slots 4 (by decide)).trans rfl)) (eval_slot (hF 3 (by decide))) (store_nd _ _ _ _ _ wx (hF 7 (by decide)).1)) (hF 7 (by decide)) (row2_set (hF 7 (by decide)).1 _ _) (fun k hk => (Below.heap_setCell _ ⟨g', 1, none⟩ _ k hk).trans (Below.heap_setCell _ ⟨g', 0, none⟩ _ k hk)) (by simp [World.setCell]) ((hG.below.setCell HGE.out _).setCell HGE.out _)
  · intro a wx who hG hF
    obtain ⟨v20, ob20, fv20, fo20, fp20⟩ := hF 1 (of_decide_eq_true (by kernel_rfl)) (of_decide_eq_true (by kernel_rfl))
    replace fv20 : a.tmps.getD 20 undef = v20 := eval_slot (s := 20) fv20
    have hb4 := hF 4 (of_decide_eq_true (by kernel_rfl)) (of_decide_eq_true (by kernel_rfl))
    have hb5 := hF 5 (of_decide_eq_true (by kernel_rfl)) (of_decide_eq_true (by kernel_rfl))
    obtain ⟨vb, ob2, hvb, -, -, ub, rfl, hbox2⟩ := hb4
    have e20 : v20 = .agg #[ub] := fv20.symm.trans (eval_slot hvb)
    obtain ⟨uu, hu1, hrow20, -⟩ := fp20
    rw [e20] at hu1
    injection hu1 with hu1
    injection hu1 with hu1
    injection hu1 with hu1 _
    subst hu1 e20
    clear hvb fo20
    have hbox5 := hb5.1
    clear hb5
    have hbx := hG.below
    have hnx := hG.new
    rw [hG.frame]
    simp only [List.foldl_cons, List.foldl_nil, List.setIfInBounds_toArray, List.set_cons_zero, List.set_cons_succ]
    generalize a.tmps.getD 19 undef = u19
    rw [fv20]
    generalize a.tmps.getD 21 undef = u21
    generalize a.tmps.getD 22 undef = u22
    clear hF hG fv20
    obtain ⟨aN, cN, rfl, -⟩ := ndsO (ns := x) (by rw [HI.out]; exact hrow20)
    obtain ⟨d4, -⟩ := row1 hbox2
    obtain ⟨c4, c5, -, -⟩ := row2 hbox5
    rw [HI.out] at hrow20 d4 ⊢
    have hsx : Nds wx (.slice aN i cN) x := Nds.owned (by rw [HI.out]; exact hrow20)
    have SX := Lib.hid hsx
    obtain ⟨w4, hw4⟩ : ∃ w4, w4 = wx := ⟨_, rfl⟩
    subst hw4
    replace SZ := Lib.hid (ints_belowB SZ.out hbx)
    replace B := Lib.hid hbx
    clear hbx hnx hbox2 hbox5 hrow20 hsx HR0 HR1 HG HG' HW NE HGE HWN e8 e9 SM
    go_upto_if 25 with (fail)
    go_cut [2] (fun s2 wc => s2 = .slice za zk zc ∧ wc = w4)
    case first =>
      by_cases hz : zl ≤ 12
      · obtain rfl : zk = zl := by have := HZ12.out; omega
        have hz1 : ¬ (12 : Int) < (zk : Int) := by omega
        go_wp2_with fail
        go_meet
        exact ⟨rfl, rfl⟩
      · obtain rfl : zk = 12 := by have := HZ12.out; omega
        have hz1 : (12 : Int) < (zl : Int) := by omega
        have hz2 : (12 : Int) ≤ (zc : Int) := by have := HZC.out; omega
        obtain ⟨bZ, oZ, rfl⟩ := SZ.out.some (by omega)
        go_wp2_with fail
        go_meet
        exact ⟨rfl, rfl⟩
    case rest =>
      obtain ⟨rfl, rfl⟩ := hcut
      clear HZ12 HZC
      go_upto_region 6 with (first
        | (go_at_call 10; refine (k5 _ _ SX.out).mono ?_; rintro e w5 ⟨rfl, hb5⟩; replace B := Lib.hid (below_step B.out hb5); replace SX := Lib.hid (SX.out.below hb5); replace d4 := cell_keep d4 hb5; replace c4 := cell_keep c4 hb5; replace c5 := cell_keep c5 hb5; replace SZ := Lib.hid (ints_belowB SZ.out hb5); clear hb5 k5)
        | (go_at_call 11; refine (k6 _ _ SX.out).mono ?_; rintro e w6 ⟨vn, rfl, hown, hb6⟩; obtain ⟨aQ, cQ, rfl, hQ6⟩ := ndsO (by rw [HQL.out]; exact hown); rw [HQL.out] at hQ6 ⊢; replace B := Lib.hid (below_step B.out hb6); replace SX := Lib.hid (SX.out.below hb6); replace d4 := cell_keep d4 hb6; replace c4 := cell_keep c4 hb6; replace c5 := cell_keep c5 hb6; replace SZ := Lib.hid (ints_belowB SZ.out hb6); have SQ := Lib.hid hQ6; clear hb6 hown hQ6 k6))
      obtain ⟨W6, g10, hW6, hg10, e10, hb6⟩ := boxM w6 (.slice aQ q2 cQ) 24
      rw [hW6, hg10]
      replace B := Lib.hid (below_step B.out hb6); replace SX := Lib.hid (SX.out.below hb6); replace d4 := cell_keep d4 hb6; replace c4 := cell_keep c4 hb6; replace c5 := cell_keep c5 hb6; replace SZ := Lib.hid (ints_belowB SZ.out hb6); replace SQ := Lib.hid (SQ.out.below hb6)
      clear hW6 hg10 hb6
      go_upto_region 7 with (go_at_call 12; refine (k7 _ _ _ SX.out SZ.out).mono ?_; rintro e w7 ⟨vl, rfl, hown, hb7⟩; obtain ⟨aA, cA, rfl, hA7⟩ := ndsO (by rw [HAL.out]; exact hown); rw [HAL.out] at hA7 ⊢; replace B := Lib.hid (below_step B.out hb7); replace SX := Lib.hid (SX.out.below hb7); replace d4 := cell_keep d4 hb7; replace c4 := cell_keep c4 hb7; replace c5 := cell_keep c5 hb7; replace SZ := Lib.hid (ints_belowB SZ.out hb7); replace SQ := Lib.hid (SQ.out.below hb7); replace e10 := cell_keep e10 hb7; have SA := Lib.hid hA7; clear hb7 hown hA7 k7)
      cases om
      · simp only [Bool.false_eq_true, if_false] at kC
        refine rol_run (by kernel_rfl) [[], [0], [0, 1], [], [0, 1, 3], [0, 1, 2, 3, 4]] (by kernel_rfl) [47, 48, 49, 50, 51, 52] [[], [0], [1], [], [3], [2, 4]] [0, 0, 0, 0, 0, 0] [0, 0, 0, 0, 0, 0] [1000, 1000, 1000, 1000, 1000, 1000] [.val 47 (.agg #[.slice aN i cN]), .val 48 (.int .i64 1), .val 49 (.bool false), .val 50 (.agg #[.slice aN i cN]), .val 51 (.bool false), .val 52 (.bool false)] (by kernel_rfl) ?_ (w7.heap.size) (w7.heap.size) rfl (Below.refl _ _) rfl (fun _ => 0) ?_ ?_ ?_
        · intro j hj
          have hj3 : j < 6 := hj
          have hj2 : j = 0 ∨ j = 1 ∨ j = 2 ∨ j = 3 ∨ j = 4 ∨ j = 5 := by omega
          clear hj hj3
          rcases hj2 with rfl | rfl | rfl | rfl | rfl | rfl
          · exact trivial
          · exact trivial
          · exact trivial
          · exact trivial
          · exact trivial
          · exact trivial
        · intro j hj0 hj
          exact absurd hj (Nat.not_lt.2 hj0)
        · intro i hi a wx who hG hF
          have hz : a.tmps.size = 216 := hG.size
          have hi3 : i < 6 := hi
          have hi2 : i = 0 ∨ i = 1 ∨ i = 2 ∨ i = 3 ∨ i = 4 ∨ i = 5 := by omega
          clear hi hi3
          rcases hi2 with rfl | rfl | rfl | rfl | rfl | rfl
          · exact rol_val rfl rfl rfl (by rw [hz]; decide) (ex_load rfl (eval_slot ((hG.slots 3 (by decide)).trans rfl)) (ldm_names (cell_keep d4 hG.below))) hG.below
          · refine rol_call rfl rfl rfl (by rw [hz]; decide) (ex_call rfl (by simp [eval_slot (hF 0 (by decide))]) e13) (kC _ wx (SX.out.below hG.below)) ?_ hG.below hG.new
            rintro e w1 ⟨rfl, hb1⟩
            exact ⟨_, rfl, hb1, .inl rfl⟩
          · exact rol_val rfl rfl rfl (by rw [hz]; decide) (ex_bin rfl (eval_slot (hF 1 (by decide))) rfl (by go_simp) (by go_simp)) hG.below
          · exact rol_val rfl rfl rfl (by rw [hz]; decide) (ex_load rfl (eval_slot ((hG.slots 3 (by decide)).trans rfl)) (ldm_names (cell_keep d4 hG.below))) hG.below
          · refine rol_call rfl rfl rfl (by rw [hz]; decide) (ex_call rfl (by simp [eval_slot (hF 3 (by decide))]) e14) (kM _ wx (SX.out.below hG.below)) ?_ hG.below hG.new
            rintro e w1 ⟨rfl, hb1⟩
            exact ⟨_, rfl, hb1, .inl rfl⟩
          · exact rol_val rfl rfl rfl (by rw [hz]; decide) (ex_bin rfl (eval_slot (hF 2 (by decide))) (eval_slot (hF 4 (by decide))) (by go_simp) (by go_simp)) hG.below
        · intro a wx who hG hF
          have fv52 : a.tmps.getD 52 undef = .bool false := eval_slot (s := 52) (hF 5 (of_decide_eq_true (by kernel_rfl)) (of_decide_eq_true (by kernel_rfl)))
          have hbx := hG.below
          have hnx := hG.new
          rw [hG.frame]
          simp only [List.foldl_cons, List.foldl_nil, List.setIfInBounds_toArray, List.set_cons_zero, List.set_cons_succ]
          generalize a.tmps.getD 47 undef = u47
          generalize a.tmps.getD 48 undef = u48
          generalize a.tmps.getD 49 undef = u49
          generalize a.tmps.getD 50 undef = u50
          generalize a.tmps.getD 51 undef = u51
          rw [fv52]
          clear hF hG fv52
          replace B := Lib.hid (below_step B.out hbx); replace SX := Lib.hid (SX.out.below hbx); replace d4 := cell_keep d4 hbx; replace c4 := cell_keep c4 hbx; replace c5 := cell_keep c5 hbx; replace SZ := Lib.hid (ints_belowB SZ.out hbx); replace SQ := Lib.hid (SQ.out.below hbx); replace e10 := cell_keep e10 hbx; replace SA := Lib.hid (SA.out.below hbx)
          have ep1 : P1 = 0 := by rw [← HP1.out, findM_m _ HOM.out]; rfl
          have ep2 : P2 = 1 := by rw [← HP2.out, findM_m _ HOM.out]
          have hq := idM_no (l := x) (n := (p1, p2)) (by rw [HOM.out]; rfl)
          have eq1 : Q1 = 0 := by rw [← HQ1.out, hq]; rfl
          have eq2 : Q2 = x := by rw [← HQ2.out, hq]
          have eq3 : Q3 = 1 := by rw [← HQ3.out, hq]
          have ea1 : A1 = [] := by rw [← HA1.out, atM_no _ HOM.out]
          have ea2 : A2 = 1 := by rw [← HA2.out, atM_no _ HOM.out]
          have hal : a1 = 0 := by rw [← HAL.out, ea1]; rfl
          subst ep1 ep2 eq1 eq3 ea2 hal
          have ks := fun U V w hu hv => isame_any U V Q2 x w hu hv
          rw [decide_eq_true eq2] at ks
          clear eq2 ea1 hq hbx hnx
          go_wp2_with (first
            | (go_at_call 14; refine (kM _ _ SX.out).mono ?_; rintro e w8 ⟨rfl, hb8⟩; replace B := Lib.hid (below_step B.out hb8); replace SX := Lib.hid (SX.out.below hb8); replace d4 := cell_keep d4 hb8; replace c4 := cell_keep c4 hb8; replace c5 := cell_keep c5 hb8; replace SZ := Lib.hid (ints_belowB SZ.out hb8); replace SQ := Lib.hid (SQ.out.below hb8); replace e10 := cell_keep e10 hb8; replace SA := Lib.hid (SA.out.below hb8); clear hb8 kM)
            | (go_at_call 15; refine (ks _ _ _ SQ.out SX.out).mono ?_; rintro e w12 ⟨rfl, hb12⟩; replace B := Lib.hid (below_step B.out hb12); clear hb12 ks)
            | (go_at_call 16; refine (iawake_any _).mono ?_; rintro e w9 ⟨rfl, hb9⟩; replace B := Lib.hid (below_step B.out hb9); clear hb9))
          go_ret
          exact ⟨rfl, B.out⟩
      · simp only [if_true] at kC
        refine rol_run (by kernel_rfl) [[], [0], [0, 1], [], [0, 1, 3], [0, 1, 2, 3, 4]] (by kernel_rfl) [47, 48, 49, 50, 51, 52] [[], [0], [1], [], [3], [2, 4]] [0, 0, 0, 0, 0, 0] [0, 0, 0, 0, 0, 0] [1000, 1000, 1000, 1000, 1000, 1000] [.val 47 (.agg #[.slice aN i cN]), .val 48 (.int .i64 0), .val 49 (.bool true), .val 50 (.agg #[.slice aN i cN]), .val 51 (.bool true), .val 52 (.bool false)] (by kernel_rfl) ?_ (w7.heap.size) (w7.heap.size) rfl (Below.refl _ _) rfl (fun _ => 0) ?_ ?_ ?_
        · intro j hj
          have hj3 : j < 6 := hj
          have hj2 : j = 0 ∨ j = 1 ∨ j = 2 ∨ j = 3 ∨ j = 4 ∨ j = 5 := by omega
          clear hj hj3
          rcases hj2 with rfl | rfl | rfl | rfl | rfl | rfl
          · exact trivial
          · exact trivial
          · exact trivial
          · exact trivial
          · exact trivial
          · exact trivial
        · intro j hj0 hj
          exact absurd hj (Nat.not_lt.2 hj0)
        · intro i hi a wx who hG hF
          have hz : a.tmps.size = 216 := hG.size
          have hi3 : i < 6 := hi
          have hi2 : i = 0 ∨ i = 1 ∨ i = 2 ∨ i = 3 ∨ i = 4 ∨ i = 5 := by omega
          clear hi hi3
          rcases hi2 with rfl | rfl | rfl | rfl | rfl | rfl
          · exact rol_val rfl rfl rfl (by rw [hz]; decide) (ex_load rfl (eval_slot ((hG.slots 3 (by decide)).trans rfl)) (ldm_names (cell_keep d4 hG.below))) hG.below
          · refine rol_call rfl rfl rfl (by rw [hz]; decide) (ex_call rfl (by simp [eval_slot (hF 0 (by decide))]) e13) (kC _ wx (SX.out.below hG.below)) ?_ hG.below hG.new
            rintro e w1 ⟨rfl, hb1⟩
            exact ⟨_, rfl, hb1, .inl rfl⟩
          · exact rol_val rfl rfl rfl (by rw [hz]; decide) (ex_bin rfl (eval_slot (hF 1 (by decide))) rfl (by go_simp) (by go_simp)) hG.below
          · exact rol_val rfl rfl rfl (by rw [hz]; decide) (ex_load rfl (eval_slot ((hG.slots 3 (by decide)).trans rfl)) (ldm_names (cell_keep d4 hG.below))) hG.below
          · refine rol_call rfl rfl rfl (by rw [hz]; decide) (ex_call rfl (by simp [eval_slot (hF 3 (by decide))]) e14) (kM _ wx (SX.out.below hG.below)) ?_ hG.below hG.new
            rintro e w1 ⟨rfl, hb1⟩
            exact ⟨_, rfl, hb1, .inl rfl⟩
          · exact rol_val rfl rfl rfl (by rw [hz]; decide) (ex_bin rfl (eval_slot (hF 2 (by decide))) (eval_slot (hF 4 (by decide))) (by go_simp) (by go_simp)) hG.below
        · intro a wx who hG hF
          have fv52 : a.tmps.getD 52 undef = .bool false := eval_slot (s := 52) (hF 5 (of_decide_eq_true (by kernel_rfl)) (of_decide_eq_true (by kernel_rfl)))
          have hbx := hG.below
          have hnx := hG.new
          rw [hG.frame]
          simp only [List.foldl_cons, List.foldl_nil, List.setIfInBounds_toArray, List.set_cons_zero, List.set_cons_succ]
          generalize a.tmps.getD 47 undef = u47
          generalize a.tmps.getD 48 undef = u48
          generalize a.tmps.getD 49 undef = u49
          generalize a.tmps.getD 50 undef = u50
          generalize a.tmps.getD 51 undef = u51
          rw [fv52]
          clear hF hG fv52
          replace B := Lib.hid (below_step B.out hbx); replace SX := Lib.hid (SX.out.below hbx); replace d4 := cell_keep d4 hbx; replace c4 := cell_keep c4 hbx; replace c5 := cell_keep c5 hbx; replace SZ := Lib.hid (ints_belowB SZ.out hbx); replace SQ := Lib.hid (SQ.out.below hbx); replace e10 := cell_keep e10 hbx; replace SA := Lib.hid (SA.out.below hbx)
          clear hbx hnx
          go_wp2_with (go_at_call 14; refine (kM _ _ SX.out).mono ?_; rintro e W0 ⟨rfl, hb8⟩; replace B := Lib.hid (below_step B.out hb8); replace SX := Lib.hid (SX.out.below hb8); replace d4 := cell_keep d4 hb8; replace c4 := cell_keep c4 hb8; replace c5 := cell_keep c5 hb8; replace SZ := Lib.hid (ints_belowB SZ.out hb8); replace SQ := Lib.hid (SQ.out.below hb8); replace e10 := cell_keep e10 hb8; replace SA := Lib.hid (SA.out.below hb8); clear hb8 kM)
          go_loopw [14, 15, 16] (fun v14 v15 v16 wr => ∃ (t kW : Nat) (b : Bool) (K : List Nd) (aW : Option Addr) (cW : Nat), t ≤ zk ∧ kW ≤ t ∧ v14 = .slice aW kW cW ∧ v15 = .bool b ∧ v16 = .int .i64 t ∧ Hid (K = pickM x ((zs.take t).filter (inM i))) ∧ Hid (K.length = kW) ∧ Hid (b = !(zs.take t).all (inM i)) ∧ Hid (wr.ownsRow W0.heap.size 26 2 (.slice aW kW cW) kW (ndsC K)) ∧ Hid (Below W0.heap.size W0 wr)) (fun _ _ v _ => zk - (intOf v).toNat)
          case atStart => exact ⟨0, 0, false, [], none, 0, Nat.zero_le _, Nat.le_refl _, rfl, rfl, rfl, Lib.hid (by simp [pickM]), Lib.hid rfl, Lib.hid (by simp), Lib.hid (World.ownsRow_nil _ _ _ _), Lib.hid (Below.refl _ _)⟩
          case round =>
            obtain ⟨t, kW, b, K, aW, cW, ht, hkW, rfl, rfl, rfl, HK, HKL, HBD, HRW, HB⟩ := hrel
            by_cases hlt : t < zk
            · have hkb : (t : Int) < (zk : Int) := by omega
              have htz : t < zs.length := by rw [HZK.out]; exact hlt
              obtain ⟨bZ, oZ, rfl⟩ := SZ.out.some (by omega)
              have hcZ0 := SZ.out.cell t hlt
              have hcZ := cell_keep hcZ0 HB.out
              have d5 := cell_keep d4 HB.out
              obtain ⟨z, hz⟩ : ∃ z, zs.getD t 0 = z := ⟨_, rfl⟩
              rw [hz] at hcZ0 hcZ
              by_cases hng : z < 0
              · have hw := want_none (l := x) htz (by rw [hz]; exact inM_neg (n := i) hng)
                have HNG := Lib.hid (decide_eq_true hng)
                have HK2 : Hid (K = pickM x ((zs.take (t + 1)).filter (inM i))) := Lib.hid (by rw [hw.1]; exact HK.out)
                have HBD2 : Hid (true = !(zs.take (t + 1)).all (inM i)) := Lib.hid (by rw [hw.2]; rfl)
                clear hw hz hng
                go_upto_region 16 with fail
                refine rol_run (by kernel_rfl) [[], [], [0, 1], [0, 1, 2], [0, 1, 2, 3], [0, 1, 2, 3, 4], [0, 1, 2, 3, 4, 5], [0, 1, 2, 3, 4, 5], [0, 1, 2, 3, 4, 5, 6, 7], [0, 1, 2, 3, 4, 5, 6, 7, 8], [0, 1, 2, 3, 4, 5], [0, 1, 2, 3, 4, 5, 10], [0, 1, 2, 3, 4, 5, 10, 11], [0, 1, 2, 3, 4, 5, 6, 7, 8, 9, 10, 11, 12], [0, 1, 2, 3, 4, 5, 6, 7, 8, 9, 10, 11, 12, 13]] (by kernel_rfl) [93, 94, 95, 96, 97, 98, 99, 100, 101, 102, 103, 104, 105, 106, 107] [[], [], [0, 1], [2], [3], [4], [5], [5], [5], [5], [5], [5], [5], [5], [5]] [0, 0, 0, 0, 0, 0, 0, 0, 0, 0, 0, 0, 0, 0, 0] [0, 0, 0, 0, 0, 0, 0, 0, 0, 0, 0, 0, 0, 0, 0] [1000, 1000, 1000, 1000, 1000, 1000, 1000, 1000, 1000, 1000, 1000, 1000, 1000, 1000, 1000] [.val 93 (.slice (some ⟨bZ, oZ, none⟩) zk zc), .val 94 (.int .i64 (t : Int)), .val 95 (.pointer (some ⟨bZ, oZ + t, none⟩)), .val 96 (.int .i64 z), .val 97 (.bool true), .val 98 (.bool true), .val 99 undef, .val 100 undef, .val 101 undef, .val 102 undef, .val 103 undef, .val 104 undef, .val 105 undef, .val 106 undef, .val 107 (.bool true)] (by kernel_rfl) ?_ (wr.heap.size) (wr.heap.size) rfl (Below.refl _ _) rfl (fun _ => 0) ?_ ?_ ?_
                · intro j hj
                  have hj3 : j < 15 := hj
                  have hj2 : j = 0 ∨ j = 1 ∨ j = 2 ∨ j = 3 ∨ j = 4 ∨ j = 5 ∨ j = 6 ∨ j = 7 ∨ j = 8 ∨ j = 9 ∨ j = 10 ∨ j = 11 ∨ j = 12 ∨ j = 13 ∨ j = 14 := by omega
                  clear hj hj3
                  rcases hj2 with rfl | rfl | rfl | rfl | rfl | rfl | rfl | rfl | rfl | rfl | rfl | rfl | rfl | rfl | rfl
                  · exact trivial
                  · exact trivial
                  · exact trivial
                  · exact trivial
                  · exact trivial
                  · exact trivial
                  · exact trivial
                  · exact trivial
                  · exact trivial
                  · exact trivial
                  · exact trivial
                  · exact trivial
                  · exact trivial
                  · exact trivial
                  · exact trivial
                · intro j hj0 hj
                  exact absurd hj (Nat.not_lt.2 hj0)
                · intro i hi a wx who hG hF
                  have hz : a.tmps.size = 216 := hG.size
                  have hi3 : i < 15 := hi
                  have hi2 : i = 0 ∨ i = 1 ∨ i = 2 ∨ i = 3 ∨ i = 4 ∨ i = 5 ∨ i = 6 ∨ i = 7 ∨ i = 8 ∨ i = 9 ∨ i = 10 ∨ i = 11 ∨ i = 12 ∨ i = 13 ∨ i = 14 := by omega
                  clear hi hi3
                  rcases hi2 with rfl | rfl | rfl | rfl | rfl | rfl | rfl | rfl | rfl | rfl | rfl | rfl | rfl | rfl | rfl
                  · exact rol_val rfl rfl rfl (by rw [hz]; decide) (ex_move (Or.inl rfl) (eval_slot ((hG.slots 2 (by decide)).trans rfl))) hG.below
                  · exact rol_val rfl rfl rfl (by rw [hz]; decide) (ex_move (Or.inl rfl) (eval_slot ((hG.slots 16 (by decide)).trans rfl))) hG.below
                  · exact rol_val rfl rfl rfl (by rw [hz]; decide) (ex_index rfl (eval_slot (hF 0 (by decide))) (eval_slot (hF 1 (by decide))) (idx_int hlt)) hG.below
                  · exact rol_val rfl rfl rfl (by rw [hz]; decide) (ex_load rfl (eval_slot (hF 2 (by decide))) (ld_int (cell_keep hcZ hG.below))) hG.below
                  · exact rol_val rfl rfl rfl (by rw [hz]; decide) (ex_bin rfl (eval_slot (hF 3 (by decide))) rfl (by go_simp) (bin_lss0 HNG.out)) hG.below
                  · exact rol_val rfl rfl rfl (by rw [hz]; decide) (ex_move (Or.inl rfl) (eval_slot (hF 4 (by decide)))) hG.below
                  · exact rol_val_skip rfl (want_no rfl rfl (hF 5 (by decide)) (by decide)) rfl (by rw [hz]; decide) hG.below
                  · exact rol_val_skip rfl (want_no rfl rfl (hF 5 (by decide)) (by decide)) rfl (by rw [hz]; decide) hG.below
                  · exact rol_val_skip rfl (want_no rfl rfl (hF 5 (by decide)) (by decide)) rfl (by rw [hz]; decide) hG.below
                  · exact rol_val_skip rfl (want_no rfl rfl (hF 5 (by decide)) (by decide)) rfl (by rw [hz]; decide) hG.below
                  · exact rol_val_skip rfl (want_no rfl rfl (hF 5 (by decide)) (by decide)) rfl (by rw [hz]; decide) hG.below
                  · exact rol_val_skip rfl (want_no rfl rfl (hF 5 (by decide)) (by decide)) rfl (by rw [hz]; decide) hG.below
                  · exact rol_val_skip rfl (want_no rfl rfl (hF 5 (by decide)) (by decide)) rfl (by rw [hz]; decide) hG.below
                  · exact rol_val_skip rfl (want_no rfl rfl (hF 5 (by decide)) (by decide)) rfl (by rw [hz]; decide) hG.below
                  · exact rol_val rfl rfl rfl (by rw [hz]; decide) (ex_pick_yes rfl (eval_slot (hF 5 (by decide))) rfl) hG.below
                · intro a wx who hG hF
                  have fv107 : a.tmps.getD 107 undef = .bool true := eval_slot (s := 107) (hF 14 (of_decide_eq_true (by kernel_rfl)) (of_decide_eq_true (by kernel_rfl)))
                  have hbx := hG.below
                  have hnx := hG.new
                  rw [hG.frame]
                  simp only [List.foldl_cons, List.foldl_nil, List.setIfInBounds_toArray, List.set_cons_zero, List.set_cons_succ]
                  generalize a.tmps.getD 93 undef = u93
                  generalize a.tmps.getD 94 undef = u94
                  generalize a.tmps.getD 95 undef = u95
                  generalize a.tmps.getD 96 undef = u96
                  generalize a.tmps.getD 97 undef = u97
                  generalize a.tmps.getD 98 undef = u98
                  generalize a.tmps.getD 99 undef = u99
                  generalize a.tmps.getD 100 undef = u100
                  generalize a.tmps.getD 101 undef = u101
                  generalize a.tmps.getD 102 undef = u102
                  generalize a.tmps.getD 103 undef = u103
                  generalize a.tmps.getD 104 undef = u104
                  generalize a.tmps.getD 105 undef = u105
                  generalize a.tmps.getD 106 undef = u106
                  rw [fv107]
                  clear hF hG fv107
                  have HB2 := Lib.hid (HB.out.trans (hbx.mono HB.out.size))
                  have HRX := Lib.hid (ownsRow_belowB HRW.out hbx)
                  clear hbx hnx hcZ hcZ0 d5
                  go_wp2
                  go_roundw
                  case rel => exact ⟨t + 1, kW, true, K, aW, cW, by omega, by omega, rfl, rfl, by go_num, HK2, HKL, HBD2, HRX, HB2⟩
                  case measure => simp [intOf]; omega
              · obtain ⟨k, rfl⟩ : ∃ k : Nat, z = (k : Int) := ⟨z.toNat, by omega⟩
                have HNG : Hid (decide ((k : Int) < 0) = false) := Lib.hid (decide_eq_false (by omega))
                by_cases hki : k < i
                · have hw := want_some (n := i) htz (by rw [hz, inM_nat, decide_eq_true hki])
                  have HGQ : Hid (decide ((i : Int) ≤ (k : Int)) = false) := Lib.hid (decide_eq_false (by omega))
                  have hkx : k < x.length := by rw [HI.out]; exact hki
                  obtain ⟨u, hu⟩ : ∃ u, u = x.getD k ([], []) := ⟨_, rfl⟩
                  obtain ⟨u1, u2⟩ := u
                  have HK2 : Hid (K ++ [(u1, u2)] = pickM x ((zs.take (t + 1)).filter (inM i))) := Lib.hid (by rw [hw.1, hz, pickM_snoc, ← HK.out, hu])
                  have HBD2 : Hid (b = !(zs.take (t + 1)).all (inM i)) := Lib.hid (by rw [hw.2]; exact HBD.out)
                  clear hw hz hng
                  go_upto_region 16 with fail
                  refine rol_run (by kernel_rfl) [[], [], [0, 1], [0, 1, 2], [0, 1, 2, 3], [0, 1, 2, 3, 4], [0, 1, 2, 3, 4, 5], [0, 1, 2, 3, 4, 5], [0, 1, 2, 3, 4, 5, 6, 7], [0, 1, 2, 3, 4, 5, 6, 7, 8], [0, 1, 2, 3, 4, 5], [0, 1, 2, 3, 4, 5, 10], [0, 1, 2, 3, 4, 5, 10, 11], [0, 1, 2, 3, 4, 5, 6, 7, 8, 9, 10, 11, 12], [0, 1, 2, 3, 4, 5, 6, 7, 8, 9, 10, 11, 12, 13]] (by kernel_rfl) [93, 94, 95, 96, 97, 98, 99, 100, 101, 102, 103, 104, 105, 106, 107] [[], [], [0, 1], [2], [3], [4], [5], [5], [5, 6, 7], [5, 8], [5], [5, 10], [5, 11], [5, 9, 12], [5, 13]] [0, 0, 0, 0, 0, 0, 0, 0, 0, 0, 0, 0, 0, 0, 0] [0, 0, 0, 0, 0, 0, 0, 0, 0, 0, 0, 0, 0, 0, 0] [1000, 1000, 1000, 1000, 1000, 1000, 1000, 1000, 1000, 1000, 1000, 1000, 1000, 1000, 1000] [.val 93 (.slice (some ⟨bZ, oZ, none⟩) zk zc), .val 94 (.int .i64 (t : Int)), .val 95 (.pointer (some ⟨bZ, oZ + t, none⟩)), .val 96 (.int .i64 (k : Int)), .val 97 (.bool false), .val 98 (.bool false), .val 99 (.slice (some ⟨bZ, oZ, none⟩) zk zc), .val 100 (.int .i64 (t : Int)), .val 101 (.pointer (some ⟨bZ, oZ + t, none⟩)), .val 102 (.int .i64 (k : Int)), .val 103 (.pointer (some ⟨g, 0, none⟩)), .val 104 (.slice aN i cN), .val 105 (.int .i64 (i : Int)), .val 106 (.bool false), .val 107 (.bool false)] (by kernel_rfl) ?_ (wr.heap.size) (wr.heap.size) rfl (Below.refl _ _) rfl (fun _ => 0) ?_ ?_ ?_
                  · intro j hj
                    have hj3 : j < 15 := hj
                    have hj2 : j = 0 ∨ j = 1 ∨ j = 2 ∨ j = 3 ∨ j = 4 ∨ j = 5 ∨ j = 6 ∨ j = 7 ∨ j = 8 ∨ j = 9 ∨ j = 10 ∨ j = 11 ∨ j = 12 ∨ j = 13 ∨ j = 14 := by omega
                    clear hj hj3
                    rcases hj2 with rfl | rfl | rfl | rfl | rfl | rfl | rfl | rfl | rfl | rfl | rfl | rfl | rfl | rfl | rfl
                    · exact trivial
                    · exact trivial
                    · exact trivial
                    · exact trivial
                    · exact trivial
                    · exact trivial
                    · exact trivial
                    · exact trivial
                    · exact trivial
                    · exact trivial
                    · exact trivial
                    · exact trivial
                    · exact trivial
                    · exact trivial
                    · exact trivial
                  · intro j hj0 hj
                    exact absurd hj (Nat.not_lt.2 hj0)
                  · intro i hi a wx who hG hF
                    have hz : a.tmps.size = 216 := hG.size
                    have hi3 : i < 15 := hi
                    have hi2 : i = 0 ∨ i = 1 ∨ i = 2 ∨ i = 3 ∨ i = 4 ∨ i = 5 ∨ i = 6 ∨ i = 7 ∨ i = 8 ∨ i = 9 ∨ i = 10 ∨ i = 11 ∨ i = 12 ∨ i = 13 ∨ i = 14 := by omega
                    clear hi hi3
                    rcases hi2 with rfl | rfl | rfl | rfl | rfl | rfl | rfl | rfl | rfl | rfl | rfl | rfl | rfl | rfl | rfl
                    · exact rol_val rfl rfl rfl (by rw [hz]; decide) (ex_move (Or.inl rfl) (eval_slot ((hG.slots 2 (by decide)).trans rfl))) hG.below
                    · exact rol_val rfl rfl rfl (by rw [hz]; decide) (ex_move (Or.inl rfl) (eval_slot ((hG.slots 16 (by decide)).trans rfl))) hG.below
                    · exact rol_val rfl rfl rfl (by rw [hz]; decide) (ex_index rfl (eval_slot (hF 0 (by decide))) (eval_slot (hF 1 (by decide))) (idx_int hlt)) hG.below
                    · exact rol_val rfl rfl rfl (by rw [hz]; decide) (ex_load rfl (eval_slot (hF 2 (by decide))) (ld_int (cell_keep hcZ hG.below))) hG.below
                    · exact rol_val rfl rfl rfl (by rw [hz]; decide) (ex_bin rfl (eval_slot (hF 3 (by decide))) rfl (by go_simp) (bin_lss0 HNG.out)) hG.below
                    · exact rol_val rfl rfl rfl (by rw [hz]; decide) (ex_move (Or.inl rfl) (eval_slot (hF 4 (by decide)))) hG.below
                    · exact rol_val rfl (want_yes rfl rfl (hF 5 (by decide))) rfl (by rw [hz]; decide) (ex_move (Or.inl rfl) (eval_slot ((hG.slots 2 (by decide)).trans rfl))) hG.below
                    · exact rol_val rfl (want_yes rfl rfl (hF 5 (by decide))) rfl (by rw [hz]; decide) (ex_move (Or.inl rfl) (eval_slot ((hG.slots 16 (by decide)).trans rfl))) hG.below
                    · exact rol_val rfl (want_yes rfl rfl (hF 5 (by decide))) rfl (by rw [hz]; decide) (ex_index rfl (eval_slot (hF 6 (by decide))) (eval_slot (hF 7 (by decide))) (idx_int hlt)) hG.below
                    · exact rol_val rfl (want_yes rfl rfl (hF 5 (by decide))) rfl (by rw [hz]; decide) (ex_load rfl (eval_slot (hF 8 (by decide))) (ld_int (cell_keep hcZ hG.below))) hG.below
                    · exact rol_val rfl (want_yes rfl rfl (hF 5 (by decide))) rfl (by rw [hz]; decide) (ex_field rfl (eval_slot ((hG.slots 3 (by decide)).trans rfl)) (by go_simp)) hG.below
                    · exact rol_val rfl (want_yes rfl rfl (hF 5 (by decide))) rfl (by rw [hz]; decide) (ex_load rfl (eval_slot (hF 10 (by decide))) (ldm_slice (cell_keep d5 hG.below))) hG.below
                    · exact rol_val rfl (want_yes rfl rfl (hF 5 (by decide))) rfl (by rw [hz]; decide) (ex_len rfl (eval_slot (hF 11 (by decide))) (by go_simp)) hG.below
                    · exact rol_val rfl (want_yes rfl rfl (hF 5 (by decide))) rfl (by rw [hz]; decide) (ex_bin rfl (eval_slot (hF 9 (by decide))) (eval_slot (hF 12 (by decide))) (by go_simp) (bin_geq HGQ.out)) hG.below
                    · exact rol_val rfl rfl rfl (by rw [hz]; decide) (ex_pick_no rfl (eval_slot (hF 5 (by decide))) (eval_slot (hF 13 (by decide)))) hG.below
                  · intro a wx who hG hF
                    have fv107 : a.tmps.getD 107 undef = .bool false := eval_slot (s := 107) (hF 14 (of_decide_eq_true (by kernel_rfl)) (of_decide_eq_true (by kernel_rfl)))
                    have hbx := hG.below
                    have hnx := hG.new
                    rw [hG.frame]
                    simp only [List.foldl_cons, List.foldl_nil, List.setIfInBounds_toArray, List.set_cons_zero, List.set_cons_succ]
                    generalize a.tmps.getD 93 undef = u93
                    generalize a.tmps.getD 94 undef = u94
                    generalize a.tmps.getD 95 undef = u95
                    generalize a.tmps.getD 96 undef = u96
                    generalize a.tmps.getD 97 undef = u97
                    generalize a.tmps.getD 98 undef = u98
                    generalize a.tmps.getD 99 undef = u99
                    generalize a.tmps.getD 100 undef = u100
                    generalize a.tmps.getD 101 undef = u101
                    generalize a.tmps.getD 102 undef = u102
                    generalize a.tmps.getD 103 undef = u103
                    generalize a.tmps.getD 104 undef = u104
                    generalize a.tmps.getD 105 undef = u105
                    generalize a.tmps.getD 106 undef = u106
                    rw [fv107]
                    clear hF hG fv107
                    have HB2 := Lib.hid (HB.out.trans (hbx.mono HB.out.size))
                    have HRX := Lib.hid (ownsRow_belowB HRW.out hbx)
                    obtain ⟨wv, hwv⟩ : ∃ v, v = wx := ⟨_, rfl⟩
                    subst hwv
                    obtain ⟨bX, oX, rfl, -, hx0, hx1⟩ := SX.out.at k hkx
                    rw [← hu] at hx0 hx1
                    simp only at hx0 hx1
                    clear hbx hnx hcZ d5 hu HRW HB
                    go_upto_region 18 with fail
                    refine rol_run (by kernel_rfl) [[], [], [1], [], [], [3, 4], [3, 4, 5], [1, 2, 3, 4, 5, 6], [1, 2, 3, 4, 5, 6, 7], [1, 2, 3, 4, 5, 6, 7, 8], [0, 1, 2, 3, 4, 5, 6, 7, 8, 9], [0, 1, 2, 3, 4, 5, 6, 7, 8, 9, 10]] (by kernel_rfl) [108, 109, 110, 111, 112, 113, 114, 115, 116, 117, 118, 14] [[12], [], [1], [], [], [3, 4], [5], [2, 6], [7], [8], [0, 9], [10]] [1, 0, 0, 0, 0, 0, 0, 0, 0, 2, 1, 1, 1] [0, 0, 0, 0, 0, 0, 0, 0, 0, 2, 1, 0] [10, 1000, 1000, 1000, 1000, 1000, 1000, 1000, 1000, 1000, 1000, 1000, 10] [.mem 108 (rowP W0.heap.size kW K), .val 109 (.pointer (some ⟨g, 0, none⟩)), .val 110 (.slice (some ⟨bX, oX, none⟩) i cN), .val 111 (.slice (some ⟨bZ, oZ, none⟩) zk zc), .val 112 (.int .i64 (t : Int)), .val 113 (.pointer (some ⟨bZ, oZ + t, none⟩)), .val 114 (.int .i64 (k : Int)), .val 115 (.pointer (some ⟨bX, oX + k * 2, none⟩)), .val 116 (.agg #[.string (mkB u1), .string (mkB u2)]), .mem 117 (blkP u1 u2), .mem 118 (rowP W0.heap.size (kW + 1) (K ++ [(u1, u2)])), .mem 14 (rowP W0.heap.size (kW + 1) (K ++ [(u1, u2)])), .mem 14 (rowP W0.heap.size kW K)] (by kernel_rfl) ?_ (W0.heap.size) (wv.heap.size) rfl HB2.out rfl (fun k => if (Value.slice aW kW cW).ownBlock = some k then 1 else 0) ?_ ?_ ?_
                    · intro j hj
                      have hj3 : j < 13 := hj
                      have hj2 : j = 0 ∨ j = 1 ∨ j = 2 ∨ j = 3 ∨ j = 4 ∨ j = 5 ∨ j = 6 ∨ j = 7 ∨ j = 8 ∨ j = 9 ∨ j = 10 ∨ j = 11 ∨ j = 12 := by omega
                      clear hj hj3
                      rcases hj2 with rfl | rfl | rfl | rfl | rfl | rfl | rfl | rfl | rfl | rfl | rfl | rfl | rfl
                      · exact rowP_near
                      · exact trivial
                      · exact trivial
                      · exact trivial
                      · exact trivial
                      · exact trivial
                      · exact trivial
                      · exact trivial
                      · exact trivial
                      · exact blkP_near
                      · exact rowP_near
                      · exact rowP_near
                      · exact rowP_near
                    · intro j hj0 hj
                      have hj1 : 12 ≤ j := hj0
                      have hj3 : j < 13 := hj
                      have hj2 : j = 12 := by omega
                      clear hj0 hj hj1 hj3
                      rcases hj2 with rfl
                      · exact ⟨_, _, rfl, fun b e => ⟨(own_lt HRX.out e).2, if_pos e⟩, HRX.out, rfl⟩
                    · intro i hi a wx who hG hF
                      have hz : a.tmps.size = 216 := hG.size
                      have hi3 : i < 12 := hi
                      have hi2 : i = 0 ∨ i = 1 ∨ i = 2 ∨ i = 3 ∨ i = 4 ∨ i = 5 ∨ i = 6 ∨ i = 7 ∨ i = 8 ∨ i = 9 ∨ i = 10 ∨ i = 11 := by omega
                      clear hi hi3
                      rcases hi2 with rfl | rfl | rfl | rfl | rfl | rfl | rfl | rfl | rfl | rfl | rfl | rfl
                      · exact rol_move rfl rfl rfl (by rw [hz]; decide) (Or.inl rfl) (hF 12 (by decide)) hG.below
                      · exact rol_val rfl rfl rfl (by rw [hz]; decide) (ex_field rfl (eval_slot ((hG.slots 3 (by decide)).trans rfl)) (by go_simp)) hG.below
                      · exact rol_val rfl rfl rfl (by rw [hz]; decide) (ex_load rfl (eval_slot (hF 1 (by decide))) (ldm_slice (cell_keep d4 hG.below))) hG.below
                      · exact rol_val rfl rfl rfl (by rw [hz]; decide) (ex_move (Or.inl rfl) (eval_slot ((hG.slots 2 (by decide)).trans rfl))) hG.below
                      · exact rol_val rfl rfl rfl (by rw [hz]; decide) (ex_move (Or.inl rfl) (eval_slot ((hG.slots 16 (by decide)).trans rfl))) hG.below
                      · exact rol_val rfl rfl rfl (by rw [hz]; decide) (ex_index rfl (eval_slot (hF 3 (by decide))) (eval_slot (hF 4 (by decide))) (idx_int hlt)) hG.below
                      · exact rol_val rfl rfl rfl (by rw [hz]; decide) (ex_load rfl (eval_slot (hF 5 (by decide))) (ld_int (cell_keep hcZ0 hG.below))) hG.below
                      · exact rol_val rfl rfl rfl (by rw [hz]; decide) (ex_index rfl (eval_slot (hF 2 (by decide))) (eval_slot (hF 6 (by decide))) (idx_nd hki)) hG.below
                      · exact rol_val rfl rfl rfl (by rw [hz]; decide) (ex_load rfl (eval_slot (hF 7 (by decide))) (ldn_at (cell_keep hx0 hG.below) (cell_keep hx1 hG.below))) hG.below
                      · exact rol_one_nd rfl rfl rfl (by rw [hz]; decide) rfl (eval_slot (hF 8 (by decide))) hG.below hG.below.size
                      · obtain ⟨u, ob, hu, -, hp⟩ := hF 9 (by decide)
                        obtain ⟨b, rfl, hnd⟩ := hp.nds
                        exact rol_app_nd rfl rfl rfl (by rw [hz]; decide) rfl (hF 0 (by decide)) (eval_slot hu) hnd (by omega) hG.below (Nat.le_refl _) hG.below.size rfl rfl
                      · exact rol_move rfl rfl rfl (by rw [hz]; decide) (Or.inr rfl) (hF 10 (by decide)) hG.below
                    · intro a wx who hG hF
                      obtain ⟨v14, ob14, fv14, fo14, fp14⟩ := hF 11 (of_decide_eq_true (by kernel_rfl)) (of_decide_eq_true (by kernel_rfl))
                      replace fv14 : a.tmps.getD 14 undef = v14 := eval_slot (s := 14) fv14
                      have hrow14 := fp14.1
                      obtain ⟨aE, cE, rfl, -⟩ := ndsO (ns := K ++ [(u1, u2)]) (by rw [List.length_append, HKL.out]; exact hrow14)
                      rw [List.length_append, HKL.out, List.length_singleton] at fv14 hrow14
                      clear fo14 fp14
                      have hbx := hG.below
                      have hnx := hG.new
                      rw [hG.frame]
                      simp only [List.foldl_cons, List.foldl_nil, List.setIfInBounds_toArray, List.set_cons_zero, List.set_cons_succ]
                      generalize a.tmps.getD 108 undef = u108
                      generalize a.tmps.getD 109 undef = u109
                      generalize a.tmps.getD 110 undef = u110
                      generalize a.tmps.getD 111 undef = u111
                      generalize a.tmps.getD 112 undef = u112
                      generalize a.tmps.getD 113 undef = u113
                      generalize a.tmps.getD 114 undef = u114
                      generalize a.tmps.getD 115 undef = u115
                      generalize a.tmps.getD 116 undef = u116
                      generalize a.tmps.getD 117 undef = u117
                      generalize a.tmps.getD 118 undef = u118
                      rw [fv14]
                      clear hF hG fv14
                      have HB3 := Lib.hid hbx
                      have HR3 := Lib.hid hrow14
                      have HK3 : Hid ((K ++ [(u1, u2)]).length = kW + 1) := Lib.hid (by rw [List.length_append, HKL.out]; rfl)
                      clear hbx hnx hrow14 hcZ0 hx0 hx1
                      go_wp2
                      go_roundw
                      case rel => exact ⟨t + 1, kW + 1, b, K ++ [(u1, u2)], aE, cE, by omega, by omega, rfl, rfl, by go_num, HK2, HK3, HBD2, HR3, HB3⟩
                      case measure => simp [intOf]; omega
                · have hw := want_none (l := x) htz (by rw [hz, inM_nat, decide_eq_false hki] : inM i (zs.getD t 0) = false)
                  have HGQ : Hid (decide ((i : Int) ≤ (k : Int)) = true) := Lib.hid (decide_eq_true (by omega))
                  have HK2 : Hid (K = pickM x ((zs.take (t + 1)).filter (inM i))) := Lib.hid (by rw [hw.1]; exact HK.out)
                  have HBD2 : Hid (true = !(zs.take (t + 1)).all (inM i)) := Lib.hid (by rw [hw.2]; rfl)
                  clear hw hz hng
                  go_upto_region 16 with fail
                  refine rol_run (by kernel_rfl) [[], [], [0, 1], [0, 1, 2], [0, 1, 2, 3], [0, 1, 2, 3, 4], [0, 1, 2, 3, 4, 5], [0, 1, 2, 3, 4, 5], [0, 1, 2, 3, 4, 5, 6, 7], [0, 1, 2, 3, 4, 5, 6, 7, 8], [0, 1, 2, 3, 4, 5], [0, 1, 2, 3, 4, 5, 10], [0, 1, 2, 3, 4, 5, 10, 11], [0, 1, 2, 3, 4, 5, 6, 7, 8, 9, 10, 11, 12], [0, 1, 2, 3, 4, 5, 6, 7, 8, 9, 10, 11, 12, 13]] (by kernel_rfl) [93, 94, 95, 96, 97, 98, 99, 100, 101, 102, 103, 104, 105, 106, 107] [[], [], [0, 1], [2], [3], [4], [5], [5], [5, 6, 7], [5, 8], [5], [5, 10], [5, 11], [5, 9, 12], [5, 13]] [0, 0, 0, 0, 0, 0, 0, 0, 0, 0, 0, 0, 0, 0, 0] [0, 0, 0, 0, 0, 0, 0, 0, 0, 0, 0, 0, 0, 0, 0] [1000, 1000, 1000, 1000, 1000, 1000, 1000, 1000, 1000, 1000, 1000, 1000, 1000, 1000, 1000] [.val 93 (.slice (some ⟨bZ, oZ, none⟩) zk zc), .val 94 (.int .i64 (t : Int)), .val 95 (.pointer (some ⟨bZ, oZ + t, none⟩)), .val 96 (.int .i64 (k : Int)), .val 97 (.bool false), .val 98 (.bool false), .val 99 (.slice (some ⟨bZ, oZ, none⟩) zk zc), .val 100 (.int .i64 (t : Int)), .val 101 (.pointer (some ⟨bZ, oZ + t, none⟩)), .val 102 (.int .i64 (k : Int)), .val 103 (.pointer (some ⟨g, 0, none⟩)), .val 104 (.slice aN i cN), .val 105 (.int .i64 (i : Int)), .val 106 (.bool true), .val 107 (.bool true)] (by kernel_rfl) ?_ (wr.heap.size) (wr.heap.size) rfl (Below.refl _ _) rfl (fun _ => 0) ?_ ?_ ?_
                  · intro j hj
                    have hj3 : j < 15 := hj
                    have hj2 : j = 0 ∨ j = 1 ∨ j = 2 ∨ j = 3 ∨ j = 4 ∨ j = 5 ∨ j = 6 ∨ j = 7 ∨ j = 8 ∨ j = 9 ∨ j = 10 ∨ j = 11 ∨ j = 12 ∨ j = 13 ∨ j = 14 := by omega
                    clear hj hj3
                    rcases hj2 with rfl | rfl | rfl | rfl | rfl | rfl | rfl | rfl | rfl | rfl | rfl | rfl | rfl | rfl | rfl
                    · exact trivial
                    · exact trivial
                    · exact trivial
                    · exact trivial
                    · exact trivial
                    · exact trivial
                    · exact trivial
                    · exact trivial
                    · exact trivial
                    · exact trivial
                    · exact trivial
                    · exact trivial
                    · exact trivial
                    · exact trivial
                    · exact trivial
                  · intro j hj0 hj
                    exact absurd hj (Nat.not_lt.2 hj0)
                  · intro i hi a wx who hG hF
                    have hz : a.tmps.size = 216 := hG.size
                    have hi3 : i < 15 := hi
                    have hi2 : i = 0 ∨ i = 1 ∨ i = 2 ∨ i = 3 ∨ i = 4 ∨ i = 5 ∨ i = 6 ∨ i = 7 ∨ i = 8 ∨ i = 9 ∨ i = 10 ∨ i = 11 ∨ i = 12 ∨ i = 13 ∨ i = 14 := by omega
                    clear hi hi3
                    rcases hi2 with rfl | rfl | rfl | rfl | rfl | rfl | rfl | rfl | rfl | rfl | rfl | rfl | rfl | rfl | rfl
                    · exact rol_val rfl rfl rfl (by rw [hz]; decide) (ex_move (Or.inl rfl) (eval_slot ((hG.slots 2 (by decide)).trans rfl))) hG.below
                    · exact rol_val rfl rfl rfl (by rw [hz]; decide) (ex_move (Or.inl rfl) (eval_slot ((hG.slots 16 (by decide)).trans rfl))) hG.below
                    · exact rol_val rfl rfl rfl (by rw [hz]; decide) (ex_index rfl (eval_slot (hF 0 (by decide))) (eval_slot (hF 1 (by decide))) (idx_int hlt)) hG.below
                    · exact rol_val rfl rfl rfl (by rw [hz]; decide) (ex_load rfl (eval_slot (hF 2 (by decide))) (ld_int (cell_keep hcZ hG.below))) hG.below
                    · exact rol_val rfl rfl rfl (by rw [hz]; decide) (ex_bin rfl (eval_slot (hF 3 (by decide))) rfl (by go_simp) (bin_lss0 HNG.out)) hG.below
                    · exact rol_val rfl rfl rfl (by rw [hz]; decide) (ex_move (Or.inl rfl) (eval_slot (hF 4 (by decide)))) hG.below
                    · exact rol_val rfl (want_yes rfl rfl (hF 5 (by decide))) rfl (by rw [hz]; decide) (ex_move (Or.inl rfl) (eval_slot ((hG.slots 2 (by decide)).trans rfl))) hG.below
                    · exact rol_val rfl (want_yes rfl rfl (hF 5 (by decide))) rfl (by rw [hz]; decide) (ex_move (Or.inl rfl) (eval_slot ((hG.slots 16 (by decide)).trans rfl))) hG.below
                    · exact rol_val rfl (want_yes rfl rfl (hF 5 (by decide))) rfl (by rw [hz]; decide) (ex_index rfl (eval_slot (hF 6 (by decide))) (eval_slot (hF 7 (by decide))) (idx_int hlt)) hG.below
                    · exact rol_val rfl (want_yes rfl rfl (hF 5 (by decide))) rfl (by rw [hz]; decide) (ex_load rfl (eval_slot (hF 8 (by decide))) (ld_int (cell_keep hcZ hG.below))) hG.below
                    · exact rol_val rfl (want_yes rfl rfl (hF 5 (by decide))) rfl (by rw [hz]; decide) (ex_field rfl (eval_slot ((hG.slots 3 (by decide)).trans rfl)) (by go_simp)) hG.below
                    · exact rol_val rfl (want_yes rfl rfl (hF 5 (by decide))) rfl (by rw [hz]; decide) (ex_load rfl (eval_slot (hF 10 (by decide))) (ldm_slice (cell_keep d5 hG.below))) hG.below
                    · exact rol_val rfl (want_yes rfl rfl (hF 5 (by decide))) rfl (by rw [hz]; decide) (ex_len rfl (eval_slot (hF 11 (by decide))) (by go_simp)) hG.below
                    · exact rol_val rfl (want_yes rfl rfl (hF 5 (by decide))) rfl (by rw [hz]; decide) (ex_bin rfl (eval_slot (hF 9 (by decide))) (eval_slot (hF 12 (by decide))) (by go_simp) (bin_geq HGQ.out)) hG.below
                    · exact rol_val rfl rfl rfl (by rw [hz]; decide) (ex_pick_no rfl (eval_slot (hF 5 (by decide))) (eval_slot (hF 13 (by decide)))) hG.below
                  · intro a wx who hG hF
                    have fv107 : a.tmps.getD 107 undef = .bool true := eval_slot (s := 107) (hF 14 (of_decide_eq_true (by kernel_rfl)) (of_decide_eq_true (by kernel_rfl)))
                    have hbx := hG.below
                    have hnx := hG.new
                    rw [hG.frame]
                    simp only [List.foldl_cons, List.foldl_nil, List.setIfInBounds_toArray, List.set_cons_zero, List.set_cons_succ]
                    generalize a.tmps.getD 93 undef = u93
                    generalize a.tmps.getD 94 undef = u94
                    generalize a.tmps.getD 95 undef = u95
                    generalize a.tmps.getD 96 undef = u96
                    generalize a.tmps.getD 97 undef = u97
                    generalize a.tmps.getD 98 undef = u98
                    generalize a.tmps.getD 99 undef = u99
                    generalize a.tmps.getD 100 undef = u100
                    generalize a.tmps.getD 101 undef = u101
                    generalize a.tmps.getD 102 undef = u102
                    generalize a.tmps.getD 103 undef = u103
                    generalize a.tmps.getD 104 undef = u104
                    generalize a.tmps.getD 105 undef = u105
                    generalize a.tmps.getD 106 undef = u106
                    rw [fv107]
                    clear hF hG fv107
                    have HB2 := Lib.hid (HB.out.trans (hbx.mono HB.out.size))
                    have HRX := Lib.hid (ownsRow_belowB HRW.out hbx)
                    clear hbx hnx hcZ hcZ0 d5
                    go_wp2
                    go_roundw
                    case rel => exact ⟨t + 1, kW, true, K, aW, cW, by omega, by omega, rfl, rfl, by go_num, HK2, HKL, HBD2, HRX, HB2⟩
                    case measure => simp [intOf]; omega
            · have hb2 := HBD.out
              have hk2 := HK.out
              rw [List.take_of_length_le (by rw [HZK.out]; omega)] at hb2 hk2
              replace HK := Lib.hid hk2
              have hsw : Nds wr (.slice aW kW cW) K := Nds.owned (by rw [HKL.out]; exact HRW.out)
              have SW := Lib.hid hsw
              replace B := Lib.hid (below_step B.out HB.out); replace SX := Lib.hid (SX.out.below HB.out); replace d4 := cell_keep d4 HB.out; replace c4 := cell_keep c4 HB.out; replace c5 := cell_keep c5 HB.out; replace SZ := Lib.hid (ints_belowB SZ.out HB.out); replace SQ := Lib.hid (SQ.out.below HB.out); replace e10 := cell_keep e10 HB.out; replace SA := Lib.hid (SA.out.below HB.out)
              clear hk2 hsw HB HRW HBD
              obtain ⟨oo, hoo⟩ : ∃ o, zs.all (inM i) = o := ⟨_, rfl⟩
              rw [hoo] at hb2
              have HOO : Hid (zs.all (inM x.length) = oo) := Lib.hid (by rw [HI.out]; exact hoo)
              have hfa : oo = true → zs.filter (inM i) = zs := fun h => filter_all (hoo.trans h)
              clear hoo
              cases oo
              · obtain rfl : b = true := hb2
                clear hfa
                have ea := atM_bad HOM.out HOO.out
                have ea1 : A1 = [] := by rw [← HA1.out, ea]
                have ea2 : A2 = 2 := by rw [← HA2.out, ea]
                subst ea1 ea2
                obtain rfl : a1 = 0 := HAL.out.symm
                clear ea
                have kN := fun w => refnmay_any p1 p2 w HSM.out.1 HSM.out.2
                rw [HON.out] at kN
                cases on
                · have ep1 : P1 = 0 := by rw [← HP1.out, findM_n HON.out]; rfl
                  have ep2 : P2 = 1 := by rw [← HP2.out, findM_n HON.out]
                  have hq := idM_no (l := x) (n := (p1, p2)) (by rw [HON.out, Bool.and_false])
                  have eq1 : Q1 = 0 := by rw [← HQ1.out, hq]; rfl
                  have eq2 : Q2 = x := by rw [← HQ2.out, hq]
                  have eq3 : Q3 = 1 := by rw [← HQ3.out, hq]
                  clear hq
                  have SQx := SQ
                  subst ep1 ep2 eq1 eq3
                  have ks := fun U V w hu hv => isame_any U V Q2 x w hu hv
                  rw [decide_eq_true eq2] at ks
                  clear eq2
                  go_wp2_with (first
                    | (fail)
                    | (go_at_call 18; refine (kN _).mono ?_; rintro e w13 ⟨rfl, hb13⟩; replace B := Lib.hid (below_step B.out hb13); replace SX := Lib.hid (SX.out.below hb13); replace d4 := cell_keep d4 hb13; replace c4 := cell_keep c4 hb13; replace c5 := cell_keep c5 hb13; replace SQ := Lib.hid (SQ.out.below hb13); replace e10 := cell_keep e10 hb13; clear hb13 kN)
                    | (go_at_call 15; refine (ks _ _ _ SQ.out SX.out).mono ?_; rintro e w12 ⟨rfl, hb12⟩; replace B := Lib.hid (below_step B.out hb12); clear hb12 ks)
                    | (go_at_call 16; refine (iawake_any _).mono ?_; rintro e w9 ⟨rfl, hb9⟩; replace B := Lib.hid (below_step B.out hb9); clear hb9))
                  go_ret
                  exact ⟨rfl, B.out⟩
                · have hq := idM_yes (l := x) (n := (p1, p2)) (by rw [HOM.out, HON.out]; rfl)
                  obtain ⟨J, hJ⟩ : ∃ J, ixN x (p1, p2) = J := ⟨_, rfl⟩
                  obtain ⟨X, hX⟩ : ∃ X, addM x (p1, p2) = X := ⟨_, rfl⟩
                  have eq1 : Q1 = (J : Int) := by rw [← HQ1.out, hq, hJ]
                  have eq2 : Q2 = X := by rw [← HQ2.out, hq, hX]
                  have eq3 : Q3 = 0 := by rw [← HQ3.out, hq]
                  clear hq
                  subst eq1 eq2 eq3
                  have kI := fun U w h => refiid_any U x p1 p2 w h (by rw [HI.out]; omega)
                  rw [hJ, hX] at kI
                  have kP := fun U w h => iplace_any U x p1 p2 w h
                  have ks := fun U V w hu hv => isame_any U V Q2 Q2 w hu hv
                  rw [decide_eq_true rfl] at ks
                  have hj0 : ¬ (J : Int) < 0 := by omega
                  have hj1 : (0 : Int) ≤ (J : Int) := by omega
                  have hxl := (addM_len x (p1, p2))
                  rw [hX, HI.out] at hxl
                  obtain ⟨xl, hxl2⟩ : ∃ k, Q2.length = k := ⟨_, rfl⟩
                  have HXL := Lib.hid hxl2
                  obtain ⟨oh, hoh⟩ : ∃ o, hasN x (p1, p2) = o := ⟨_, rfl⟩
                  cases oh
                  · have hf := findM_none HOM.out HON.out hoh
                    have ep1 : P1 = 0 := by rw [← HP1.out, hf]; rfl
                    have ep2 : P2 = 2 := by rw [← HP2.out, hf]
                    have hpl : placeM x (p1, p2) = -1 := by unfold placeM; rw [hoh]; rfl
                    rw [hpl] at kP
                    subst ep1 ep2
                    clear hf hpl hoh hJ hX hxl hxl2
                    go_upto_region 24 with (first
                      | (fail)
                      | (go_at_call 18; refine (kN _).mono ?_; rintro e w13 ⟨rfl, hb13⟩; replace B := Lib.hid (below_step B.out hb13); replace SX := Lib.hid (SX.out.below hb13); replace d4 := cell_keep d4 hb13; replace c4 := cell_keep c4 hb13; replace c5 := cell_keep c5 hb13; replace SQ := Lib.hid (SQ.out.below hb13); replace e10 := cell_keep e10 hb13; clear hb13 kN)
                      | (go_at_call 19; refine (kI _ _ SX.out).mono ?_; rintro e w14 ⟨vn, rfl, hy14, hb14⟩; obtain ⟨aV, cV, rfl, -⟩ := hy14.ex; have SV := Lib.hid hy14; replace B := Lib.hid (below_step B.out hb14); replace SX := Lib.hid (SX.out.below hb14); replace d4 := cell_keep d4 hb14; replace c4 := cell_keep c4 hb14; replace c5 := cell_keep c5 hb14; replace SQ := Lib.hid (SQ.out.below hb14); replace e10 := cell_keep e10 hb14; clear hb14 hy14 kI))
                    rw [HXL.out] at SV ⊢
                    obtain ⟨W15, g18, hW15, hg18, e18, hb15⟩ := boxM w14 (.slice aV xl cV) 24
                    rw [hW15, hg18]
                    replace B := Lib.hid (below_step B.out hb15); replace SX := Lib.hid (SX.out.below hb15); replace d4 := cell_keep d4 hb15; replace c4 := cell_keep c4 hb15; replace c5 := cell_keep c5 hb15; replace SQ := Lib.hid (SQ.out.below hb15); replace e10 := cell_keep e10 hb15; replace SV := Lib.hid (SV.out.below hb15)
                    clear hW15 hg18 hb15
                    go_wp2_with (first
                      | (go_at_call 20; refine (kP _ _ SX.out).mono ?_; rintro e w16 ⟨rfl, hb16⟩; replace B := Lib.hid (below_step B.out hb16); replace SX := Lib.hid (SX.out.below hb16); replace d4 := cell_keep d4 hb16; replace c4 := cell_keep c4 hb16; replace c5 := cell_keep c5 hb16; replace SQ := Lib.hid (SQ.out.below hb16); replace e10 := cell_keep e10 hb16; replace SV := Lib.hid (SV.out.below hb16); replace e18 := cell_keep e18 hb16; clear hb16)
                      | (go_at_call 15; refine (ks _ _ _ SQ.out SV.out).mono ?_; rintro e w12 ⟨rfl, hb12⟩; replace B := Lib.hid (below_step B.out hb12); clear hb12 ks)
                      | (go_at_call 16; refine (iawake_any _).mono ?_; rintro e w9 ⟨rfl, hb9⟩; replace B := Lib.hid (below_step B.out hb9); clear hb9))
                    go_ret
                    exact ⟨rfl, B.out⟩
                  · have hf := findM_yes HOM.out HON.out hoh
                    rw [hJ] at hf
                    have ep1 : P1 = (J : Int) := by rw [← HP1.out, hf]
                    have ep2 : P2 = 0 := by rw [← HP2.out, hf]
                    have hpl : placeM x (p1, p2) = (J : Int) := by unfold placeM; rw [hoh, if_pos rfl, hJ]
                    rw [hpl] at kP
                    subst ep1 ep2
                    clear hf hpl hoh hJ hX hxl hxl2
                    go_upto_region 24 with (first
                      | (fail)
                      | (go_at_call 18; refine (kN _).mono ?_; rintro e w13 ⟨rfl, hb13⟩; replace B := Lib.hid (below_step B.out hb13); replace SX := Lib.hid (SX.out.below hb13); replace d4 := cell_keep d4 hb13; replace c4 := cell_keep c4 hb13; replace c5 := cell_keep c5 hb13; replace SQ := Lib.hid (SQ.out.below hb13); replace e10 := cell_keep e10 hb13; clear hb13 kN)
                      | (go_at_call 19; refine (kI _ _ SX.out).mono ?_; rintro e w14 ⟨vn, rfl, hy14, hb14⟩; obtain ⟨aV, cV, rfl, -⟩ := hy14.ex; have SV := Lib.hid hy14; replace B := Lib.hid (below_step B.out hb14); replace SX := Lib.hid (SX.out.below hb14); replace d4 := cell_keep d4 hb14; replace c4 := cell_keep c4 hb14; replace c5 := cell_keep c5 hb14; replace SQ := Lib.hid (SQ.out.below hb14); replace e10 := cell_keep e10 hb14; clear hb14 hy14 kI))
                    rw [HXL.out] at SV ⊢
                    obtain ⟨W15, g18, hW15, hg18, e18, hb15⟩ := boxM w14 (.slice aV xl cV) 24
                    rw [hW15, hg18]
                    replace B := Lib.hid (below_step B.out hb15); replace SX := Lib.hid (SX.out.below hb15); replace d4 := cell_keep d4 hb15; replace c4 := cell_keep c4 hb15; replace c5 := cell_keep c5 hb15; replace SQ := Lib.hid (SQ.out.below hb15); replace e10 := cell_keep e10 hb15; replace SV := Lib.hid (SV.out.below hb15)
                    clear hW15 hg18 hb15
                    go_wp2_with (first
                      | (go_at_call 20; refine (kP _ _ SX.out).mono ?_; rintro e w16 ⟨rfl, hb16⟩; replace B := Lib.hid (below_step B.out hb16); replace SX := Lib.hid (SX.out.below hb16); replace d4 := cell_keep d4 hb16; replace c4 := cell_keep c4 hb16; replace c5 := cell_keep c5 hb16; replace SQ := Lib.hid (SQ.out.below hb16); replace e10 := cell_keep e10 hb16; replace SV := Lib.hid (SV.out.below hb16); replace e18 := cell_keep e18 hb16; clear hb16)
                      | (go_at_call 15; refine (ks _ _ _ SQ.out SV.out).mono ?_; rintro e w12 ⟨rfl, hb12⟩; replace B := Lib.hid (below_step B.out hb12); clear hb12 ks)
                      | (go_at_call 16; refine (iawake_any _).mono ?_; rintro e w9 ⟨rfl, hb9⟩; replace B := Lib.hid (below_step B.out hb9); clear hb9))
                    go_ret
                    exact ⟨rfl, B.out⟩
              · obtain rfl : b = false := hb2
                replace hfa := hfa rfl
                have ea := atM_yes HOM.out HOO.out
                have ea1 : A1 = K := by rw [← HA1.out, ea, HK.out, hfa]
                have ea2 : A2 = 0 := by rw [← HA2.out, ea]
                subst ea1 ea2
                clear ea
                have kz := fun U V w hu hv => nsame_any U V A1 A1 w hu hv
                rw [decide_eq_true rfl] at kz
                have kN := fun w => refnmay_any p1 p2 w HSM.out.1 HSM.out.2
                rw [HON.out] at kN
                cases on
                · have ep1 : P1 = 0 := by rw [← HP1.out, findM_n HON.out]; rfl
                  have ep2 : P2 = 1 := by rw [← HP2.out, findM_n HON.out]
                  have hq := idM_no (l := x) (n := (p1, p2)) (by rw [HON.out, Bool.and_false])
                  have eq1 : Q1 = 0 := by rw [← HQ1.out, hq]; rfl
                  have eq2 : Q2 = x := by rw [← HQ2.out, hq]
                  have eq3 : Q3 = 1 := by rw [← HQ3.out, hq]
                  clear hq
                  have SQx := SQ
                  subst ep1 ep2 eq1 eq3
                  have ks := fun U V w hu hv => isame_any U V Q2 x w hu hv
                  rw [decide_eq_true eq2] at ks
                  clear eq2
                  go_wp2_with (first
                    | (go_at_call 17; refine (kz _ _ _ SA.out SW.out).mono ?_; rintro e w11 ⟨rfl, hb11⟩; replace B := Lib.hid (below_step B.out hb11); replace SX := Lib.hid (SX.out.below hb11); replace d4 := cell_keep d4 hb11; replace c4 := cell_keep c4 hb11; replace c5 := cell_keep c5 hb11; replace SQ := Lib.hid (SQ.out.below hb11); replace e10 := cell_keep e10 hb11; clear hb11 kz)
                    | (go_at_call 18; refine (kN _).mono ?_; rintro e w13 ⟨rfl, hb13⟩; replace B := Lib.hid (below_step B.out hb13); replace SX := Lib.hid (SX.out.below hb13); replace d4 := cell_keep d4 hb13; replace c4 := cell_keep c4 hb13; replace c5 := cell_keep c5 hb13; replace SQ := Lib.hid (SQ.out.below hb13); replace e10 := cell_keep e10 hb13; clear hb13 kN)
                    | (go_at_call 15; refine (ks _ _ _ SQ.out SX.out).mono ?_; rintro e w12 ⟨rfl, hb12⟩; replace B := Lib.hid (below_step B.out hb12); clear hb12 ks)
                    | (go_at_call 16; refine (iawake_any _).mono ?_; rintro e w9 ⟨rfl, hb9⟩; replace B := Lib.hid (below_step B.out hb9); clear hb9))
                  go_ret
                  exact ⟨rfl, B.out⟩
                · have hq := idM_yes (l := x) (n := (p1, p2)) (by rw [HOM.out, HON.out]; rfl)
                  obtain ⟨J, hJ⟩ : ∃ J, ixN x (p1, p2) = J := ⟨_, rfl⟩
                  obtain ⟨X, hX⟩ : ∃ X, addM x (p1, p2) = X := ⟨_, rfl⟩
                  have eq1 : Q1 = (J : Int) := by rw [← HQ1.out, hq, hJ]
                  have eq2 : Q2 = X := by rw [← HQ2.out, hq, hX]
                  have eq3 : Q3 = 0 := by rw [← HQ3.out, hq]
                  clear hq
                  subst eq1 eq2 eq3
                  have kI := fun U w h => refiid_any U x p1 p2 w h (by rw [HI.out]; omega)
                  rw [hJ, hX] at kI
                  have kP := fun U w h => iplace_any U x p1 p2 w h
                  have ks := fun U V w hu hv => isame_any U V Q2 Q2 w hu hv
                  rw [decide_eq_true rfl] at ks
                  have hj0 : ¬ (J : Int) < 0 := by omega
                  have hj1 : (0 : Int) ≤ (J : Int) := by omega
                  have hxl := (addM_len x (p1, p2))
                  rw [hX, HI.out] at hxl
                  obtain ⟨xl, hxl2⟩ : ∃ k, Q2.length = k := ⟨_, rfl⟩
                  have HXL := Lib.hid hxl2
                  obtain ⟨oh, hoh⟩ : ∃ o, hasN x (p1, p2) = o := ⟨_, rfl⟩
                  cases oh
                  · have hf := findM_none HOM.out HON.out hoh
                    have ep1 : P1 = 0 := by rw [← HP1.out, hf]; rfl
                    have ep2 : P2 = 2 := by rw [← HP2.out, hf]
                    have hpl : placeM x (p1, p2) = -1 := by unfold placeM; rw [hoh]; rfl
                    rw [hpl] at kP
                    subst ep1 ep2
                    clear hf hpl hoh hJ hX hxl hxl2
                    go_upto_region 24 with (first
                      | (go_at_call 17; refine (kz _ _ _ SA.out SW.out).mono ?_; rintro e w11 ⟨rfl, hb11⟩; replace B := Lib.hid (below_step B.out hb11); replace SX := Lib.hid (SX.out.below hb11); replace d4 := cell_keep d4 hb11; replace c4 := cell_keep c4 hb11; replace c5 := cell_keep c5 hb11; replace SQ := Lib.hid (SQ.out.below hb11); replace e10 := cell_keep e10 hb11; clear hb11 kz)
                      | (go_at_call 18; refine (kN _).mono ?_; rintro e w13 ⟨rfl, hb13⟩; replace B := Lib.hid (below_step B.out hb13); replace SX := Lib.hid (SX.out.below hb13); replace d4 := cell_keep d4 hb13; replace c4 := cell_keep c4 hb13; replace c5 := cell_keep c5 hb13; replace SQ := Lib.hid (SQ.out.below hb13); replace e10 := cell_keep e10 hb13; clear hb13 kN)
                      | (go_at_call 19; refine (kI _ _ SX.out).mono ?_; rintro e w14 ⟨vn, rfl, hy14, hb14⟩; obtain ⟨aV, cV, rfl, -⟩ := hy14.ex; have SV := Lib.hid hy14; replace B := Lib.hid (below_step B.out hb14); replace SX := Lib.hid (SX.out.below hb14); replace d4 := cell_keep d4 hb14; replace c4 := cell_keep c4 hb14; replace c5 := cell_keep c5 hb14; replace SQ := Lib.hid (SQ.out.below hb14); replace e10 := cell_keep e10 hb14; clear hb14 hy14 kI))
                    rw [HXL.out] at SV ⊢
                    obtain ⟨W15, g18, hW15, hg18, e18, hb15⟩ := boxM w14 (.slice aV xl cV) 24
                    rw [hW15, hg18]
                    replace B := Lib.hid (below_step B.out hb15); replace SX := Lib.hid (SX.out.below hb15); replace d4 := cell_keep d4 hb15; replace c4 := cell_keep c4 hb15; replace c5 := cell_keep c5 hb15; replace SQ := Lib.hid (SQ.out.below hb15); replace e10 := cell_keep e10 hb15; replace SV := Lib.hid (SV.out.below hb15)
                    clear hW15 hg18 hb15
                    go_wp2_with (first
                      | (go_at_call 20; refine (kP _ _ SX.out).mono ?_; rintro e w16 ⟨rfl, hb16⟩; replace B := Lib.hid (below_step B.out hb16); replace SX := Lib.hid (SX.out.below hb16); replace d4 := cell_keep d4 hb16; replace c4 := cell_keep c4 hb16; replace c5 := cell_keep c5 hb16; replace SQ := Lib.hid (SQ.out.below hb16); replace e10 := cell_keep e10 hb16; replace SV := Lib.hid (SV.out.below hb16); replace e18 := cell_keep e18 hb16; clear hb16)
                      | (go_at_call 15; refine (ks _ _ _ SQ.out SV.out).mono ?_; rintro e w12 ⟨rfl, hb12⟩; replace B := Lib.hid (below_step B.out hb12); clear hb12 ks)
                      | (go_at_call 16; refine (iawake_any _).mono ?_; rintro e w9 ⟨rfl, hb9⟩; replace B := Lib.hid (below_step B.out hb9); clear hb9))
                    go_ret
                    exact ⟨rfl, B.out⟩
                  · have hf := findM_yes HOM.out HON.out hoh
                    rw [hJ] at hf
                    have ep1 : P1 = (J : Int) := by rw [← HP1.out, hf]
                    have ep2 : P2 = 0 := by rw [← HP2.out, hf]
                    have hpl : placeM x (p1, p2) = (J : Int) := by unfold placeM; rw [hoh, if_pos rfl, hJ]
                    rw [hpl] at kP
                    subst ep1 ep2
                    clear hf hpl hoh hJ hX hxl hxl2
                    go_upto_region 24 with (first
                      | (go_at_call 17; refine (kz _ _ _ SA.out SW.out).mono ?_; rintro e w11 ⟨rfl, hb11⟩; replace B := Lib.hid (below_step B.out hb11); replace SX := Lib.hid (SX.out.below hb11); replace d4 := cell_keep d4 hb11; replace c4 := cell_keep c4 hb11; replace c5 := cell_keep c5 hb11; replace SQ := Lib.hid (SQ.out.below hb11); replace e10 := cell_keep e10 hb11; clear hb11 kz)
                      | (go_at_call 18; refine (kN _).mono ?_; rintro e w13 ⟨rfl, hb13⟩; replace B := Lib.hid (below_step B.out hb13); replace SX := Lib.hid (SX.out.below hb13); replace d4 := cell_keep d4 hb13; replace c4 := cell_keep c4 hb13; replace c5 := cell_keep c5 hb13; replace SQ := Lib.hid (SQ.out.below hb13); replace e10 := cell_keep e10 hb13; clear hb13 kN)
                      | (go_at_call 19; refine (kI _ _ SX.out).mono ?_; rintro e w14 ⟨vn, rfl, hy14, hb14⟩; obtain ⟨aV, cV, rfl, -⟩ := hy14.ex; have SV := Lib.hid hy14; replace B := Lib.hid (below_step B.out hb14); replace SX := Lib.hid (SX.out.below hb14); replace d4 := cell_keep d4 hb14; replace c4 := cell_keep c4 hb14; replace c5 := cell_keep c5 hb14; replace SQ := Lib.hid (SQ.out.below hb14); replace e10 := cell_keep e10 hb14; clear hb14 hy14 kI))
                    rw [HXL.out] at SV ⊢
                    obtain ⟨W15, g18, hW15, hg18, e18, hb15⟩ := boxM w14 (.slice aV xl cV) 24
                    rw [hW15, hg18]
                    replace B := Lib.hid (below_step B.out hb15); replace SX := Lib.hid (SX.out.below hb15); replace d4 := cell_keep d4 hb15; replace c4 := cell_keep c4 hb15; replace c5 := cell_keep c5 hb15; replace SQ := Lib.hid (SQ.out.below hb15); replace e10 := cell_keep e10 hb15; replace SV := Lib.hid (SV.out.below hb15)
                    clear hW15 hg18 hb15
                    go_wp2_with (first
                      | (go_at_call 20; refine (kP _ _ SX.out).mono ?_; rintro e w16 ⟨rfl, hb16⟩; replace B := Lib.hid (below_step B.out hb16); replace SX := Lib.hid (SX.out.below hb16); replace d4 := cell_keep d4 hb16; replace c4 := cell_keep c4 hb16; replace c5 := cell_keep c5 hb16; replace SQ := Lib.hid (SQ.out.below hb16); replace e10 := cell_keep e10 hb16; replace SV := Lib.hid (SV.out.below hb16); replace e18 := cell_keep e18 hb16; clear hb16)
                      | (go_at_call 15; refine (ks _ _ _ SQ.out SV.out).mono ?_; rintro e w12 ⟨rfl, hb12⟩; replace B := Lib.hid (below_step B.out hb12); clear hb12 ks)
                      | (go_at_call 16; refine (iawake_any _).mono ?_; rintro e w9 ⟨rfl, hb9⟩; replace B := Lib.hid (below_step B.out hb9); clear hb9))
                    go_ret
                    exact ⟨rfl, B.out⟩

theorem own : ownKnob Try.prog.godebug = none := by kernel_rfl
theorem laidOut : laidOutB Try.prog = true := by kernel_rfl

set_option maxRecDepth 100000 in
theorem lifted (os : Os) (started : os.Started) (H : Type) (enc : TypeId × Value → H) :
    ReturnsInHanded {} Try.checked os 3 .any (Rows.internTellsSpec.pre6 enc Try.prog Try.f3 Rows.internTellsRow.domain false) (Rows.internTellsSpec.post enc Try.prog Try.f3 false true false false) := by
  refine returnsInHanded_of_change (C := Try.checked) own started (by kernel_rfl) Try.func3
    (ChangeSpec.witness6 (enc := enc) (C := Try.checked) false ⟨#[], #[.agg #[.slice none 0 0], .agg #[.string ByteArray.empty, .string ByteArray.empty], .slice none 0 0], []⟩ 8 (by kernel_rfl) (by kernel_rfl) (by kernel_rfl) (by kernel_rfl)) ?_
  intro W base args ds gs before hval0 hW hcnd _
  have hval : ∀ (j : Nat) t v, Try.f3.params[j]? = some t → args[j]? = some v → Value.okWide Try.prog W .any base t v := hval0
  have hW' := hW
  obtain ⟨p, q, hA0, hV, rfl, hfz, hnd⟩ := hW
  have hA : DataW.TrodAll enc Try.prog W 0 (fun _ => true) true Try.f3.params.toList args.toList ds p := hA0
  rw [Try.params3] at hA hval
  obtain ⟨v0, vs0, d0, ds0, p0, q0, hargs, rfl, rfl, h0, r0⟩ := trodAll_cons hA
  obtain ⟨v1, vs1, d1, ds1, p1, q1, rfl, rfl, rfl, h1, r1⟩ := trodAll_cons r0
  obtain ⟨v2, vs2, d2, ds2, p2, q2, rfl, rfl, rfl, h2, r2⟩ := trodAll_cons r1
  obtain ⟨rfl, rfl, rfl⟩ := trodAll_nil r2
  obtain rfl : args = #[v0, v1, v2] := by cases args; simp_all
  obtain ⟨rfl, rfl⟩ := trodVars_none hV
  have k0 := h0
  have lt0 : ∀ x ∈ p0, x.block < W.heap.size := by obtain ⟨m, hm⟩ := k0; exact DataW.trod_lt m _ _ _ hm
  obtain ⟨z0, w0⟩ := names_open (hval 0 24 v0 rfl rfl) h0
  have k1 := h1
  have lt1 : ∀ x ∈ p1, x.block < W.heap.size := by obtain ⟨m, hm⟩ := k1; exact DataW.trod_lt m _ _ _ hm
  obtain ⟨z1, w1⟩ := node_open (hval 1 26 v1 rfl rfl) h1
  obtain ⟨a2, len2, cap2, rfl⟩ := okWide_slice Try.underlying27 (hval 2 27 v2 rfl rfl)
  have k2 := h2
  have lt2 : ∀ x ∈ p2, x.block < W.heap.size := by obtain ⟨m, hm⟩ := k2; exact DataW.trod_lt m _ _ _ hm
  obtain ⟨z2, w2⟩ : ∃ zs, Ints W (.slice a2 len2 cap2) zs := by
    obtain ⟨fuel, hf⟩ := h2
    rcases open_ints Try.underlying27 Try.underlying3 (by kernel_rfl) hf with ⟨hcs, _⟩ | ⟨x, l, c, zs, hcs, _, hl, hm, hz, _, hcell, _⟩
    · simp [Value.cells] at hcs
      obtain ⟨rfl, rfl, rfl⟩ := hcs
      exact ⟨[], Ints.nil _⟩
    · simp [Value.cells] at hcs
      obtain ⟨rfl, rfl, rfl⟩ := hcs
      exact ⟨_, Ints.of_row hl hm (by simpa using hz) hcell⟩
  clear hA0 hval0
  refine (walk _ z0 _ z1 _ z2 W w0 w1 w2).mono fun e W' ⟨he, bel⟩ => ?_
  subst he
  exact ⟨_, rfl, _, _, _, [], _, [], hW', trodAll_mk1 (shut_bool Try.underlying4 _), (trodAll_cons_mk (Below.trod laidOut (by kernel_rfl) (of_decide_eq_true (by kernel_rfl)) k0 bel lt0) (trodAll_cons_mk (Below.trod laidOut (by kernel_rfl) (of_decide_eq_true (by kernel_rfl)) k1 bel lt1) (trodAll_cons_mk (Below.trod laidOut (by kernel_rfl) (of_decide_eq_true (by kernel_rfl)) k2 bel lt2) trodAll_mk0))), rfl, bel.frame _, fun h => by cases h⟩

-- the given statement
theorem proved : Rows.InternTellsSaid :=
  OpenClaim.holds_of_wide 3 Try.f3 rfl rfl rfl rfl rfl rfl rfl ⟨rfl, rfl, rfl, rfl, rfl⟩ rfl rfl rfl rfl rfl (by kernel_rfl) Try.func3 (by kernel_rfl)
    (of_decide_eq_true (by kernel_rfl)) (by unfold Func.isWrapper; first | (rw [if_pos (by decide +kernel)]; kernel_rfl) | (rw [if_neg (by decide +kernel)]; exact ⟨rfl, rfl⟩))
    (fun os started H enc _ => lifted os started H enc)
end Go.Proofs.Ythmnoepdedjhjaa.internTells
