/- For every text and version (no longer than is looked at): what is taken apart is put together to the same text, and what is put together is taken apart to the same parts; no condition. -/
import Derived.Test.YtcdflfjbdbofcaaRows
import Derived.Test.YtcdflfjbdbofcaaVerR
import Derived.Test.YtcdflfjbdbofcaaVerT
import Derived.Deep.CutRange
import Derived.Deep.DeepCutAuto
import Derived.ProofKit
import Derived.OpenShut
import Derived.ShutString
import Derived.ChangeOld
namespace Go.Proofs.Ytcdflfjbdbofcaa.versionBack
open Go.ChangeShapes Go.WideShapes Go.ChangeAt Go.RowKit
open Go.ChangeMaps (open_string shut_string)
set_option linter.unusedVariables false

theorem small_split (x : List UInt8) (h : x.length ≤ 400) : smallV 400 (verOf x) := by
  cases ho : okV x
  · rw [verOf_no ho]; exact ⟨by simp, by simp, by simp, by simp, fun l hl => by cases hl⟩
  · obtain ⟨hj, hf⟩ := join_ok ho
    obtain ⟨v, hv⟩ : ∃ v, verOf x = v := ⟨_, rfl⟩
    rw [hv] at hj hf ⊢
    obtain ⟨ma, mi, pa, pre⟩ := v
    have hl : (joinL (ma, mi, pa, pre)).length ≤ 400 := by rw [hj]; exact h
    unfold joinL at hl
    simp only [List.length_append, List.length_cons] at hl
    have hw : ∀ l ∈ pre, ∀ y ∈ l, ¬ (y.toNat : Int) = 46 := fun l hl => word_no46 (List.all_eq_true.1 (fit_parts hf).2.2.2 l hl)
    refine ⟨by show ma.length ≤ _; omega, by show mi.length ≤ _; omega, by show pa.length ≤ _; omega, ?_, ?_⟩
    · show pre.length ≤ _
      by_cases hp : pre = []
      · rw [hp]; simp
      · rw [if_neg hp] at hl
        simp only [List.length_cons] at hl
        have := splitL_len 46 (jn 46 pre)
        rw [split_jn 46 46 (by decide) pre hp hw] at this
        omega
    · intro q hq
      have hq' : q ∈ pre := hq
      have hp : pre ≠ [] := by intro e; rw [e] at hq'; cases hq'
      rw [if_neg hp] at hl
      simp only [List.length_cons] at hl
      have := split_le 46 (jn 46 pre) q (by rw [split_jn 46 46 (by decide) pre hp hw]; exact hq')
      omega
set_option maxRecDepth 100000 in
set_option maxHeartbeats 12800000 in
theorem walk (a : ByteArray) (V : Value) (v : Ver) (w : World) (ha : a.size ≤ maxLen) (hv : VerIn w V v ∧ fitsV v) :
    Calls Try.prog 5 #[.string a, V] w fun e w' => e = .returned (.bool true) ∧ Below w.heap.size w w' := by
  obtain ⟨x, hx⟩ : ∃ x, fewL a.data.toList = x := ⟨_, rfl⟩
  have SX : Hid ((mkB x).size ≤ 1000000000) := Lib.hid (by rw [mkB_size, ← hx]; have := fewL_le a.data.toList; omega)
  have LX : Hid (x.length ≤ 400) := Lib.hid (by rw [← hx]; exact fewL_le _)
  have HA := Lib.hid ha
  have HX := Lib.hid hx; clear hx ha
  obtain ⟨hV1, hfit1⟩ := hv
  obtain ⟨u, hu⟩ : ∃ u, fewV v = u := ⟨_, rfl⟩
  have SMU : Hid (smallV 400 u) := Lib.hid (by rw [← hu]; exact fewV_small v)
  have HF1 := Lib.hid hfit1; have HU1 := Lib.hid hu
  obtain ⟨a10, c10, rfl, hst1⟩ := hV1.ex
  have HST1 := Lib.hid hst1
  clear hV1 hfit1 hu hst1
  obtain ⟨o, ho⟩ : ∃ o, okV x = o := ⟨_, rfl⟩
  obtain ⟨f, hf⟩ : ∃ f, fitL u = f := ⟨_, rfl⟩
  have smp := small_split x LX.out
  obtain ⟨p, hp⟩ : ∃ p, verOf x = p := ⟨_, rfl⟩
  rw [hp] at smp
  cases o
  · cases f
    · have hfp : fitL p = false := by rw [← hp, verOf_no ho]; rfl
      have hjp : joinE p = ([], 1) := by rw [joinE_of hfp, if_neg (by simp)]
      have hju : joinE u = ([], 1) := by rw [joinE_of hf, if_neg (by simp)]
      have hoj : okV [] = false := rfl
      have hvj : verOf [] = ([], [], [], []) := rfl
      have SJ : Hid ((mkB []).size ≤ 1000000000) := Lib.hid (by rw [mkB_size]; simp)
      have hej : okE [] = 1 := rfl
      obtain ⟨j, hj⟩ : ∃ j : Ver, ([], [], [], []) = j := ⟨_, rfl⟩
      rw [hj] at hvj
      have JEQ : Hid (j = j) := Lib.hid rfl
      have he := okE_of ho
      have VX := Lib.hid hp; have OX := Lib.hid ho; have EX := Lib.hid he; have JP := Lib.hid hjp; have JU := Lib.hid hju; have OJ := Lib.hid hoj; have VJ := Lib.hid hvj; have EJ := Lib.hid hej; have SMP := Lib.hid smp
      clear hp ho he hjp hju hoj hvj hej hfp hf hj smp
      go_enter Try.func5, Try.ntmps5
      go_upto_region 1 with fail
      obtain ⟨wA, hwA⟩ : ∃ wA, wA = w.alloc (.cells #[.string (mkB v.1), .string (mkB v.2.1), .string (mkB v.2.2.1), .slice a10 v.2.2.2.length c10] 24) := ⟨_, rfl⟩
      rw [← hwA]
      have vsA : VSlot wA w.heap.size v a10 c10 := by rw [hwA]; exact VSlot.new HST1.out
      have bA : Below w.heap.size w wA := by rw [hwA]; exact (Below.refl _ _).alloc (Nat.le_refl _) _
      obtain ⟨g3, hg3⟩ : ∃ g, g = w.heap.size := ⟨_, rfl⟩
      rw [← hg3] at vsA ⊢
      have VSA := Lib.hid vsA; have BA := Lib.hid bA; have HG3 := Lib.hid hg3
      clear hwA vsA bA hg3
      obtain ⟨c0, c1, c2, c3, f0, f1, f2, f3⟩ := row4 VSA.out.row
      go_cut [0] (fun s0 wx => s0 = .string (mkB x) ∧ ∃ a3 c3, VSlot wx g3 u a3 c3 ∧ Below w.heap.size w wx)
      case first =>
        go_region_with (first
          | (go_at_call 10; refine (few_ml _ _ HA.out).mono ?_; rintro e w' ⟨rfl, rfl⟩; rw [HX.out])
          | (go_at_call 11; refine (fewv_any _ v _ (VSA.out.drewN 1).verin HF1.out).mono ?_; rintro e w1 ⟨a1, c1', rfl, hst1, hfr1, hb1⟩; rw [HU1.out] at hst1 ⊢; have ST1 := Lib.hid hst1; have FR1 : Hid (∀ ad, a1 = some ad → ad.block ≠ g3) := Lib.hid (fun ad ha => by have h1 := hfr1 ad ha; have h2 := VSA.out.lt; have h3 : wA.drew.heap.size = wA.heap.size := rfl; have h4 : (wA.drewN 1).heap.size = wA.heap.size := rfl; omega); have VS1 := Lib.hid ((VSA.out.drewN 1).below hb1); have B1 := Lib.hid (below_step (below_step BA.out (below_q ⟨1, rfl⟩)) hb1); clear hst1 hfr1 hb1; obtain ⟨d0, d1, d2, d3, e0, e1, e2, e3⟩ := row4 VS1.out.row))
        all_goals
          go_wp2_with fail
          go_meet
          refine ⟨rfl, a1, c1', ⟨row4_set VS1.out.row _ _ _ _, (((ST1.out.far FR1.out).far FR1.out).far FR1.out).far FR1.out⟩, ?_⟩
          exact (((B1.out.setCell (Nat.le_of_eq HG3.out.symm) _).setCell (Nat.le_of_eq HG3.out.symm) _).setCell (Nat.le_of_eq HG3.out.symm) _).setCell (Nat.le_of_eq HG3.out.symm) _
      case rest =>
        obtain ⟨rfl, a3, c3, hvs3, hbx⟩ := hcut
        have V3 := Lib.hid hvs3; have BX := Lib.hid hbx
        clear hvs3 hbx c0 c1 c2 f0 f1 f2 f3 VSA BA HST1
        go_upto_region 3 with (go_at_call 12; refine (split_e _ _ SX.out).mono ?_; rintro e w1 ⟨a5, c5, rfl, hst1, hb1⟩; rw [mkB_list, VX.out] at hst1 ⊢; rw [EX.out]; have V3a := Lib.hid ((V3.out.below hb1).alloc (.cells #[.string (mkB p.1), .string (mkB p.2.1), .string (mkB p.2.2.1), .slice a5 p.2.2.2.length c5] 24)); have V5a := Lib.hid (VSlot.new hst1); have h := below_step BX.out hb1; have Ba := Lib.hid (h.alloc h.size (.cells #[.string (mkB p.1), .string (mkB p.2.1), .string (mkB p.2.2.1), .slice a5 p.2.2.2.length c5] 24)); clear h hst1 hb1)
        obtain ⟨g5, hg5⟩ : ∃ g, g = w1.heap.size := ⟨_, rfl⟩
        obtain ⟨wP, hwP⟩ : ∃ wP, wP = w1.alloc (.cells #[.string (mkB p.1), .string (mkB p.2.1), .string (mkB p.2.2.1), .slice a5 p.2.2.2.length c5] 24) := ⟨_, rfl⟩
        rw [← hwP] at V3a V5a Ba ⊢
        rw [← hg5] at V5a ⊢
        clear hwP hg5 V3 BX
        obtain ⟨x0, x1, x2, x3, _, _, _, _⟩ := row4 V5a.out.row
        go_upto_region 4 with (go_at_call 14; refine (join_any2 _ p _ V5a.out.verin (small_mono SMP.out (by omega)) (Nat.le_trans (joinL_len (small_mono SMP.out (by omega))) (by omega))).mono ?_; rintro e w3 ⟨rfl, hb3⟩; rw [JP.out]; have V3c := Lib.hid (V3a.out.below hb3); have Bc := Lib.hid (below_step Ba.out hb3); clear hb3)
        clear x0 x1 x2 x3 V3a V5a Ba
        obtain ⟨x0, x1, x2, x3, _, _, _, _⟩ := row4 V3c.out.row
        go_upto_region 7 with (first
          | (go_at_call 16; refine (vmay_any _ _ SX.out).mono ?_; rintro e w4 ⟨rfl, hb4⟩; rw [mkB_list, OX.out]; replace V3c := Lib.hid (V3c.out.below hb4); replace Bc := Lib.hid (below_step Bc.out hb4); clear hb4; clear x0 x1 x2 x3; obtain ⟨x0, x1, x2, x3, _, _, _, _⟩ := row4 V3c.out.row)
          | (go_at_call 14; refine (join_any2 _ u _ V3c.out.verin (small_mono SMU.out (by omega)) (Nat.le_trans (joinL_len (small_mono SMU.out (by omega))) (by omega))).mono ?_; rintro e w5 ⟨rfl, hb5⟩; rw [JU.out]; have V3d := Lib.hid (V3c.out.below hb5); have Bd := Lib.hid (below_step Bc.out hb5); clear hb5))
        clear x0 x1 x2 x3 V3c Bc
        go_upto_region 8 with (go_at_call 12; refine (split_e _ _ SJ.out).mono ?_; rintro e w6 ⟨a11, c11, rfl, hst6, hb6⟩; rw [mkB_list, VJ.out] at hst6 ⊢; rw [EJ.out]; have V3e := Lib.hid ((V3d.out.below hb6).alloc (.cells #[.string (mkB j.1), .string (mkB j.2.1), .string (mkB j.2.2.1), .slice a11 j.2.2.2.length c11] 24)); have V11 := Lib.hid (VSlot.new hst6); have h := below_step Bd.out hb6; have Be := Lib.hid (h.alloc h.size (.cells #[.string (mkB j.1), .string (mkB j.2.1), .string (mkB j.2.2.1), .slice a11 j.2.2.2.length c11] 24)); clear h hst6 hb6)
        obtain ⟨g11, hg11⟩ : ∃ g, g = w6.heap.size := ⟨_, rfl⟩
        obtain ⟨wR, hwR⟩ : ∃ wR, wR = w6.alloc (.cells #[.string (mkB j.1), .string (mkB j.2.1), .string (mkB j.2.2.1), .slice a11 j.2.2.2.length c11] 24) := ⟨_, rfl⟩
        rw [← hwR] at V3e V11 Be ⊢
        rw [← hg11] at V11 ⊢
        clear hwR hg11 V3d Bd
        obtain ⟨x0, x1, x2, x3, _, _, _, _⟩ := row4 V3e.out.row
        obtain ⟨y0, y1, y2, y3, _, _, _, _⟩ := row4 V11.out.row
        go_wp2_with (first
          | (go_at_call 17; refine (vsame_any _ _ j u _ V11.out.verin V3e.out.verin).mono ?_; rintro e w7 ⟨rfl, hb7⟩; rw [decide_eq_true JEQ.out]; replace Be := Lib.hid (below_step Be.out hb7); clear hb7)
          | (go_at_call 16; refine (vmay_any _ _ SJ.out).mono ?_; rintro e w8 ⟨rfl, hb8⟩; rw [mkB_list, OJ.out]; replace Be := Lib.hid (below_step Be.out hb8); clear hb8)
          | (go_at_call 18; refine (awake3_any _).mono ?_; rintro e w9 ⟨rfl, hb9⟩; have B9 := Lib.hid (below_step Be.out hb9); clear hb9))
        all_goals
          go_ret
          exact ⟨rfl, B9.out⟩
    · have hfp : fitL p = false := by rw [← hp, verOf_no ho]; rfl
      have hjp : joinE p = ([], 1) := by rw [joinE_of hfp, if_neg (by simp)]
      have hju : joinE u = (joinL u, 0) := by rw [joinE_of hf, if_pos rfl]
      have hoj : okV (joinL u) = true := (ok_join hf).1
      have hvj : verOf (joinL u) = u := (ok_join hf).2
      have JEQ : Hid (u = u) := Lib.hid rfl
      have SJ : Hid ((mkB (joinL u)).size ≤ 1000000000) := Lib.hid (by rw [mkB_size]; have := joinL_len (small_mono SMU.out (by omega)); omega)
      have hej : okE (joinL u) = 0 := by rw [okE_of hoj, if_pos rfl]
      obtain ⟨j, hj⟩ : ∃ j, u = j := ⟨_, rfl⟩
      replace hvj := hvj.trans hj
      clear JEQ
      have JEQ : Hid (j = u) := Lib.hid hj.symm
      have he := okE_of ho
      have VX := Lib.hid hp; have OX := Lib.hid ho; have EX := Lib.hid he; have JP := Lib.hid hjp; have JU := Lib.hid hju; have OJ := Lib.hid hoj; have VJ := Lib.hid hvj; have EJ := Lib.hid hej; have SMP := Lib.hid smp
      clear hp ho he hjp hju hoj hvj hej hfp hf hj smp
      go_enter Try.func5, Try.ntmps5
      go_upto_region 1 with fail
      obtain ⟨wA, hwA⟩ : ∃ wA, wA = w.alloc (.cells #[.string (mkB v.1), .string (mkB v.2.1), .string (mkB v.2.2.1), .slice a10 v.2.2.2.length c10] 24) := ⟨_, rfl⟩
      rw [← hwA]
      have vsA : VSlot wA w.heap.size v a10 c10 := by rw [hwA]; exact VSlot.new HST1.out
      have bA : Below w.heap.size w wA := by rw [hwA]; exact (Below.refl _ _).alloc (Nat.le_refl _) _
      obtain ⟨g3, hg3⟩ : ∃ g, g = w.heap.size := ⟨_, rfl⟩
      rw [← hg3] at vsA ⊢
      have VSA := Lib.hid vsA; have BA := Lib.hid bA; have HG3 := Lib.hid hg3
      clear hwA vsA bA hg3
      obtain ⟨c0, c1, c2, c3, f0, f1, f2, f3⟩ := row4 VSA.out.row
      go_cut [0] (fun s0 wx => s0 = .string (mkB x) ∧ ∃ a3 c3, VSlot wx g3 u a3 c3 ∧ Below w.heap.size w wx)
      case first =>
        go_region_with (first
          | (go_at_call 10; refine (few_ml _ _ HA.out).mono ?_; rintro e w' ⟨rfl, rfl⟩; rw [HX.out])
          | (go_at_call 11; refine (fewv_any _ v _ (VSA.out.drewN 1).verin HF1.out).mono ?_; rintro e w1 ⟨a1, c1', rfl, hst1, hfr1, hb1⟩; rw [HU1.out] at hst1 ⊢; have ST1 := Lib.hid hst1; have FR1 : Hid (∀ ad, a1 = some ad → ad.block ≠ g3) := Lib.hid (fun ad ha => by have h1 := hfr1 ad ha; have h2 := VSA.out.lt; have h3 : wA.drew.heap.size = wA.heap.size := rfl; have h4 : (wA.drewN 1).heap.size = wA.heap.size := rfl; omega); have VS1 := Lib.hid ((VSA.out.drewN 1).below hb1); have B1 := Lib.hid (below_step (below_step BA.out (below_q ⟨1, rfl⟩)) hb1); clear hst1 hfr1 hb1; obtain ⟨d0, d1, d2, d3, e0, e1, e2, e3⟩ := row4 VS1.out.row))
        all_goals
          go_wp2_with fail
          go_meet
          refine ⟨rfl, a1, c1', ⟨row4_set VS1.out.row _ _ _ _, (((ST1.out.far FR1.out).far FR1.out).far FR1.out).far FR1.out⟩, ?_⟩
          exact (((B1.out.setCell (Nat.le_of_eq HG3.out.symm) _).setCell (Nat.le_of_eq HG3.out.symm) _).setCell (Nat.le_of_eq HG3.out.symm) _).setCell (Nat.le_of_eq HG3.out.symm) _
      case rest =>
        obtain ⟨rfl, a3, c3, hvs3, hbx⟩ := hcut
        have V3 := Lib.hid hvs3; have BX := Lib.hid hbx
        clear hvs3 hbx c0 c1 c2 f0 f1 f2 f3 VSA BA HST1
        go_upto_region 3 with (go_at_call 12; refine (split_e _ _ SX.out).mono ?_; rintro e w1 ⟨a5, c5, rfl, hst1, hb1⟩; rw [mkB_list, VX.out] at hst1 ⊢; rw [EX.out]; have V3a := Lib.hid ((V3.out.below hb1).alloc (.cells #[.string (mkB p.1), .string (mkB p.2.1), .string (mkB p.2.2.1), .slice a5 p.2.2.2.length c5] 24)); have V5a := Lib.hid (VSlot.new hst1); have h := below_step BX.out hb1; have Ba := Lib.hid (h.alloc h.size (.cells #[.string (mkB p.1), .string (mkB p.2.1), .string (mkB p.2.2.1), .slice a5 p.2.2.2.length c5] 24)); clear h hst1 hb1)
        obtain ⟨g5, hg5⟩ : ∃ g, g = w1.heap.size := ⟨_, rfl⟩
        obtain ⟨wP, hwP⟩ : ∃ wP, wP = w1.alloc (.cells #[.string (mkB p.1), .string (mkB p.2.1), .string (mkB p.2.2.1), .slice a5 p.2.2.2.length c5] 24) := ⟨_, rfl⟩
        rw [← hwP] at V3a V5a Ba ⊢
        rw [← hg5] at V5a ⊢
        clear hwP hg5 V3 BX
        obtain ⟨x0, x1, x2, x3, _, _, _, _⟩ := row4 V5a.out.row
        go_upto_region 4 with (go_at_call 14; refine (join_any2 _ p _ V5a.out.verin (small_mono SMP.out (by omega)) (Nat.le_trans (joinL_len (small_mono SMP.out (by omega))) (by omega))).mono ?_; rintro e w3 ⟨rfl, hb3⟩; rw [JP.out]; have V3c := Lib.hid (V3a.out.below hb3); have Bc := Lib.hid (below_step Ba.out hb3); clear hb3)
        clear x0 x1 x2 x3 V3a V5a Ba
        obtain ⟨x0, x1, x2, x3, _, _, _, _⟩ := row4 V3c.out.row
        go_upto_region 7 with (first
          | (go_at_call 16; refine (vmay_any _ _ SX.out).mono ?_; rintro e w4 ⟨rfl, hb4⟩; rw [mkB_list, OX.out]; replace V3c := Lib.hid (V3c.out.below hb4); replace Bc := Lib.hid (below_step Bc.out hb4); clear hb4; clear x0 x1 x2 x3; obtain ⟨x0, x1, x2, x3, _, _, _, _⟩ := row4 V3c.out.row)
          | (go_at_call 14; refine (join_any2 _ u _ V3c.out.verin (small_mono SMU.out (by omega)) (Nat.le_trans (joinL_len (small_mono SMU.out (by omega))) (by omega))).mono ?_; rintro e w5 ⟨rfl, hb5⟩; rw [JU.out]; have V3d := Lib.hid (V3c.out.below hb5); have Bd := Lib.hid (below_step Bc.out hb5); clear hb5))
        clear x0 x1 x2 x3 V3c Bc
        go_upto_region 8 with (go_at_call 12; refine (split_e _ _ SJ.out).mono ?_; rintro e w6 ⟨a11, c11, rfl, hst6, hb6⟩; rw [mkB_list, VJ.out] at hst6 ⊢; rw [EJ.out]; have V3e := Lib.hid ((V3d.out.below hb6).alloc (.cells #[.string (mkB j.1), .string (mkB j.2.1), .string (mkB j.2.2.1), .slice a11 j.2.2.2.length c11] 24)); have V11 := Lib.hid (VSlot.new hst6); have h := below_step Bd.out hb6; have Be := Lib.hid (h.alloc h.size (.cells #[.string (mkB j.1), .string (mkB j.2.1), .string (mkB j.2.2.1), .slice a11 j.2.2.2.length c11] 24)); clear h hst6 hb6)
        obtain ⟨g11, hg11⟩ : ∃ g, g = w6.heap.size := ⟨_, rfl⟩
        obtain ⟨wR, hwR⟩ : ∃ wR, wR = w6.alloc (.cells #[.string (mkB j.1), .string (mkB j.2.1), .string (mkB j.2.2.1), .slice a11 j.2.2.2.length c11] 24) := ⟨_, rfl⟩
        rw [← hwR] at V3e V11 Be ⊢
        rw [← hg11] at V11 ⊢
        clear hwR hg11 V3d Bd
        obtain ⟨x0, x1, x2, x3, _, _, _, _⟩ := row4 V3e.out.row
        obtain ⟨y0, y1, y2, y3, _, _, _, _⟩ := row4 V11.out.row
        go_wp2_with (first
          | (go_at_call 17; refine (vsame_any _ _ j u _ V11.out.verin V3e.out.verin).mono ?_; rintro e w7 ⟨rfl, hb7⟩; rw [decide_eq_true JEQ.out]; replace Be := Lib.hid (below_step Be.out hb7); clear hb7)
          | (go_at_call 16; refine (vmay_any _ _ SJ.out).mono ?_; rintro e w8 ⟨rfl, hb8⟩; rw [mkB_list, OJ.out]; replace Be := Lib.hid (below_step Be.out hb8); clear hb8)
          | (go_at_call 18; refine (awake3_any _).mono ?_; rintro e w9 ⟨rfl, hb9⟩; have B9 := Lib.hid (below_step Be.out hb9); clear hb9))
        all_goals
          go_ret
          exact ⟨rfl, B9.out⟩
  · cases f
    · have hfp : fitL p = true := by rw [← hp]; exact (join_ok ho).2
      have hjp : joinE p = (x, 0) := by rw [joinE_of hfp, if_pos rfl, ← hp, (join_ok ho).1]
      have eqx : ((mkB x).toList == (mkB x).toList) = true := by rw [mk_beq]; simp
      have hju : joinE u = ([], 1) := by rw [joinE_of hf, if_neg (by simp)]
      have hoj : okV [] = false := rfl
      have hvj : verOf [] = ([], [], [], []) := rfl
      have SJ : Hid ((mkB []).size ≤ 1000000000) := Lib.hid (by rw [mkB_size]; simp)
      have hej : okE [] = 1 := rfl
      obtain ⟨j, hj⟩ : ∃ j : Ver, ([], [], [], []) = j := ⟨_, rfl⟩
      rw [hj] at hvj
      have JEQ : Hid (j = j) := Lib.hid rfl
      have he := okE_of ho
      have VX := Lib.hid hp; have OX := Lib.hid ho; have EX := Lib.hid he; have JP := Lib.hid hjp; have JU := Lib.hid hju; have OJ := Lib.hid hoj; have VJ := Lib.hid hvj; have EJ := Lib.hid hej; have SMP := Lib.hid smp
      clear hp ho he hjp hju hoj hvj hej hfp hf hj smp
      go_enter Try.func5, Try.ntmps5
      go_upto_region 1 with fail
      obtain ⟨wA, hwA⟩ : ∃ wA, wA = w.alloc (.cells #[.string (mkB v.1), .string (mkB v.2.1), .string (mkB v.2.2.1), .slice a10 v.2.2.2.length c10] 24) := ⟨_, rfl⟩
      rw [← hwA]
      have vsA : VSlot wA w.heap.size v a10 c10 := by rw [hwA]; exact VSlot.new HST1.out
      have bA : Below w.heap.size w wA := by rw [hwA]; exact (Below.refl _ _).alloc (Nat.le_refl _) _
      obtain ⟨g3, hg3⟩ : ∃ g, g = w.heap.size := ⟨_, rfl⟩
      rw [← hg3] at vsA ⊢
      have VSA := Lib.hid vsA; have BA := Lib.hid bA; have HG3 := Lib.hid hg3
      clear hwA vsA bA hg3
      obtain ⟨c0, c1, c2, c3, f0, f1, f2, f3⟩ := row4 VSA.out.row
      go_cut [0] (fun s0 wx => s0 = .string (mkB x) ∧ ∃ a3 c3, VSlot wx g3 u a3 c3 ∧ Below w.heap.size w wx)
      case first =>
        go_region_with (first
          | (go_at_call 10; refine (few_ml _ _ HA.out).mono ?_; rintro e w' ⟨rfl, rfl⟩; rw [HX.out])
          | (go_at_call 11; refine (fewv_any _ v _ (VSA.out.drewN 1).verin HF1.out).mono ?_; rintro e w1 ⟨a1, c1', rfl, hst1, hfr1, hb1⟩; rw [HU1.out] at hst1 ⊢; have ST1 := Lib.hid hst1; have FR1 : Hid (∀ ad, a1 = some ad → ad.block ≠ g3) := Lib.hid (fun ad ha => by have h1 := hfr1 ad ha; have h2 := VSA.out.lt; have h3 : wA.drew.heap.size = wA.heap.size := rfl; have h4 : (wA.drewN 1).heap.size = wA.heap.size := rfl; omega); have VS1 := Lib.hid ((VSA.out.drewN 1).below hb1); have B1 := Lib.hid (below_step (below_step BA.out (below_q ⟨1, rfl⟩)) hb1); clear hst1 hfr1 hb1; obtain ⟨d0, d1, d2, d3, e0, e1, e2, e3⟩ := row4 VS1.out.row))
        all_goals
          go_wp2_with fail
          go_meet
          refine ⟨rfl, a1, c1', ⟨row4_set VS1.out.row _ _ _ _, (((ST1.out.far FR1.out).far FR1.out).far FR1.out).far FR1.out⟩, ?_⟩
          exact (((B1.out.setCell (Nat.le_of_eq HG3.out.symm) _).setCell (Nat.le_of_eq HG3.out.symm) _).setCell (Nat.le_of_eq HG3.out.symm) _).setCell (Nat.le_of_eq HG3.out.symm) _
      case rest =>
        obtain ⟨rfl, a3, c3, hvs3, hbx⟩ := hcut
        have V3 := Lib.hid hvs3; have BX := Lib.hid hbx
        clear hvs3 hbx c0 c1 c2 f0 f1 f2 f3 VSA BA HST1
        go_upto_region 3 with (go_at_call 12; refine (split_e _ _ SX.out).mono ?_; rintro e w1 ⟨a5, c5, rfl, hst1, hb1⟩; rw [mkB_list, VX.out] at hst1 ⊢; rw [EX.out]; have V3a := Lib.hid ((V3.out.below hb1).alloc (.cells #[.string (mkB p.1), .string (mkB p.2.1), .string (mkB p.2.2.1), .slice a5 p.2.2.2.length c5] 24)); have V5a := Lib.hid (VSlot.new hst1); have h := below_step BX.out hb1; have Ba := Lib.hid (h.alloc h.size (.cells #[.string (mkB p.1), .string (mkB p.2.1), .string (mkB p.2.2.1), .slice a5 p.2.2.2.length c5] 24)); clear h hst1 hb1)
        obtain ⟨g5, hg5⟩ : ∃ g, g = w1.heap.size := ⟨_, rfl⟩
        obtain ⟨wP, hwP⟩ : ∃ wP, wP = w1.alloc (.cells #[.string (mkB p.1), .string (mkB p.2.1), .string (mkB p.2.2.1), .slice a5 p.2.2.2.length c5] 24) := ⟨_, rfl⟩
        rw [← hwP] at V3a V5a Ba ⊢
        rw [← hg5] at V5a ⊢
        clear hwP hg5 V3 BX
        obtain ⟨x0, x1, x2, x3, _, _, _, _⟩ := row4 V5a.out.row
        go_upto_region 4 with (go_at_call 14; refine (join_any2 _ p _ V5a.out.verin (small_mono SMP.out (by omega)) (Nat.le_trans (joinL_len (small_mono SMP.out (by omega))) (by omega))).mono ?_; rintro e w3 ⟨rfl, hb3⟩; rw [JP.out]; have V3c := Lib.hid (V3a.out.below hb3); have Bc := Lib.hid (below_step Ba.out hb3); clear hb3)
        clear x0 x1 x2 x3 V3a V5a Ba
        obtain ⟨x0, x1, x2, x3, _, _, _, _⟩ := row4 V3c.out.row
        go_upto_region 7 with (first
          | (go_at_call 16; refine (vmay_any _ _ SX.out).mono ?_; rintro e w4 ⟨rfl, hb4⟩; rw [mkB_list, OX.out]; replace V3c := Lib.hid (V3c.out.below hb4); replace Bc := Lib.hid (below_step Bc.out hb4); clear hb4; clear x0 x1 x2 x3; obtain ⟨x0, x1, x2, x3, _, _, _, _⟩ := row4 V3c.out.row)
          | (go_at_call 14; refine (join_any2 _ u _ V3c.out.verin (small_mono SMU.out (by omega)) (Nat.le_trans (joinL_len (small_mono SMU.out (by omega))) (by omega))).mono ?_; rintro e w5 ⟨rfl, hb5⟩; rw [JU.out]; have V3d := Lib.hid (V3c.out.below hb5); have Bd := Lib.hid (below_step Bc.out hb5); clear hb5))
        clear x0 x1 x2 x3 V3c Bc
        go_upto_region 8 with (go_at_call 12; refine (split_e _ _ SJ.out).mono ?_; rintro e w6 ⟨a11, c11, rfl, hst6, hb6⟩; rw [mkB_list, VJ.out] at hst6 ⊢; rw [EJ.out]; have V3e := Lib.hid ((V3d.out.below hb6).alloc (.cells #[.string (mkB j.1), .string (mkB j.2.1), .string (mkB j.2.2.1), .slice a11 j.2.2.2.length c11] 24)); have V11 := Lib.hid (VSlot.new hst6); have h := below_step Bd.out hb6; have Be := Lib.hid (h.alloc h.size (.cells #[.string (mkB j.1), .string (mkB j.2.1), .string (mkB j.2.2.1), .slice a11 j.2.2.2.length c11] 24)); clear h hst6 hb6)
        obtain ⟨g11, hg11⟩ : ∃ g, g = w6.heap.size := ⟨_, rfl⟩
        obtain ⟨wR, hwR⟩ : ∃ wR, wR = w6.alloc (.cells #[.string (mkB j.1), .string (mkB j.2.1), .string (mkB j.2.2.1), .slice a11 j.2.2.2.length c11] 24) := ⟨_, rfl⟩
        rw [← hwR] at V3e V11 Be ⊢
        rw [← hg11] at V11 ⊢
        clear hwR hg11 V3d Bd
        obtain ⟨x0, x1, x2, x3, _, _, _, _⟩ := row4 V3e.out.row
        obtain ⟨y0, y1, y2, y3, _, _, _, _⟩ := row4 V11.out.row
        go_wp2_with (first
          | (go_at_call 17; refine (vsame_any _ _ j u _ V11.out.verin V3e.out.verin).mono ?_; rintro e w7 ⟨rfl, hb7⟩; rw [decide_eq_true JEQ.out]; replace Be := Lib.hid (below_step Be.out hb7); clear hb7)
          | (go_at_call 16; refine (vmay_any _ _ SJ.out).mono ?_; rintro e w8 ⟨rfl, hb8⟩; rw [mkB_list, OJ.out]; replace Be := Lib.hid (below_step Be.out hb8); clear hb8)
          | (go_at_call 18; refine (awake3_any _).mono ?_; rintro e w9 ⟨rfl, hb9⟩; have B9 := Lib.hid (below_step Be.out hb9); clear hb9))
        all_goals
          go_ret
          exact ⟨rfl, B9.out⟩
    · have hfp : fitL p = true := by rw [← hp]; exact (join_ok ho).2
      have hjp : joinE p = (x, 0) := by rw [joinE_of hfp, if_pos rfl, ← hp, (join_ok ho).1]
      have eqx : ((mkB x).toList == (mkB x).toList) = true := by rw [mk_beq]; simp
      have hju : joinE u = (joinL u, 0) := by rw [joinE_of hf, if_pos rfl]
      have hoj : okV (joinL u) = true := (ok_join hf).1
      have hvj : verOf (joinL u) = u := (ok_join hf).2
      have JEQ : Hid (u = u) := Lib.hid rfl
      have SJ : Hid ((mkB (joinL u)).size ≤ 1000000000) := Lib.hid (by rw [mkB_size]; have := joinL_len (small_mono SMU.out (by omega)); omega)
      have hej : okE (joinL u) = 0 := by rw [okE_of hoj, if_pos rfl]
      obtain ⟨j, hj⟩ : ∃ j, u = j := ⟨_, rfl⟩
      replace hvj := hvj.trans hj
      clear JEQ
      have JEQ : Hid (j = u) := Lib.hid hj.symm
      have he := okE_of ho
      have VX := Lib.hid hp; have OX := Lib.hid ho; have EX := Lib.hid he; have JP := Lib.hid hjp; have JU := Lib.hid hju; have OJ := Lib.hid hoj; have VJ := Lib.hid hvj; have EJ := Lib.hid hej; have SMP := Lib.hid smp
      clear hp ho he hjp hju hoj hvj hej hfp hf hj smp
      go_enter Try.func5, Try.ntmps5
      go_upto_region 1 with fail
      obtain ⟨wA, hwA⟩ : ∃ wA, wA = w.alloc (.cells #[.string (mkB v.1), .string (mkB v.2.1), .string (mkB v.2.2.1), .slice a10 v.2.2.2.length c10] 24) := ⟨_, rfl⟩
      rw [← hwA]
      have vsA : VSlot wA w.heap.size v a10 c10 := by rw [hwA]; exact VSlot.new HST1.out
      have bA : Below w.heap.size w wA := by rw [hwA]; exact (Below.refl _ _).alloc (Nat.le_refl _) _
      obtain ⟨g3, hg3⟩ : ∃ g, g = w.heap.size := ⟨_, rfl⟩
      rw [← hg3] at vsA ⊢
      have VSA := Lib.hid vsA; have BA := Lib.hid bA; have HG3 := Lib.hid hg3
      clear hwA vsA bA hg3
      obtain ⟨c0, c1, c2, c3, f0, f1, f2, f3⟩ := row4 VSA.out.row
      go_cut [0] (fun s0 wx => s0 = .string (mkB x) ∧ ∃ a3 c3, VSlot wx g3 u a3 c3 ∧ Below w.heap.size w wx)
      case first =>
        go_region_with (first
          | (go_at_call 10; refine (few_ml _ _ HA.out).mono ?_; rintro e w' ⟨rfl, rfl⟩; rw [HX.out])
          | (go_at_call 11; refine (fewv_any _ v _ (VSA.out.drewN 1).verin HF1.out).mono ?_; rintro e w1 ⟨a1, c1', rfl, hst1, hfr1, hb1⟩; rw [HU1.out] at hst1 ⊢; have ST1 := Lib.hid hst1; have FR1 : Hid (∀ ad, a1 = some ad → ad.block ≠ g3) := Lib.hid (fun ad ha => by have h1 := hfr1 ad ha; have h2 := VSA.out.lt; have h3 : wA.drew.heap.size = wA.heap.size := rfl; have h4 : (wA.drewN 1).heap.size = wA.heap.size := rfl; omega); have VS1 := Lib.hid ((VSA.out.drewN 1).below hb1); have B1 := Lib.hid (below_step (below_step BA.out (below_q ⟨1, rfl⟩)) hb1); clear hst1 hfr1 hb1; obtain ⟨d0, d1, d2, d3, e0, e1, e2, e3⟩ := row4 VS1.out.row))
        all_goals
          go_wp2_with fail
          go_meet
          refine ⟨rfl, a1, c1', ⟨row4_set VS1.out.row _ _ _ _, (((ST1.out.far FR1.out).far FR1.out).far FR1.out).far FR1.out⟩, ?_⟩
          exact (((B1.out.setCell (Nat.le_of_eq HG3.out.symm) _).setCell (Nat.le_of_eq HG3.out.symm) _).setCell (Nat.le_of_eq HG3.out.symm) _).setCell (Nat.le_of_eq HG3.out.symm) _
      case rest =>
        obtain ⟨rfl, a3, c3, hvs3, hbx⟩ := hcut
        have V3 := Lib.hid hvs3; have BX := Lib.hid hbx
        clear hvs3 hbx c0 c1 c2 f0 f1 f2 f3 VSA BA HST1
        go_upto_region 3 with (go_at_call 12; refine (split_e _ _ SX.out).mono ?_; rintro e w1 ⟨a5, c5, rfl, hst1, hb1⟩; rw [mkB_list, VX.out] at hst1 ⊢; rw [EX.out]; have V3a := Lib.hid ((V3.out.below hb1).alloc (.cells #[.string (mkB p.1), .string (mkB p.2.1), .string (mkB p.2.2.1), .slice a5 p.2.2.2.length c5] 24)); have V5a := Lib.hid (VSlot.new hst1); have h := below_step BX.out hb1; have Ba := Lib.hid (h.alloc h.size (.cells #[.string (mkB p.1), .string (mkB p.2.1), .string (mkB p.2.2.1), .slice a5 p.2.2.2.length c5] 24)); clear h hst1 hb1)
        obtain ⟨g5, hg5⟩ : ∃ g, g = w1.heap.size := ⟨_, rfl⟩
        obtain ⟨wP, hwP⟩ : ∃ wP, wP = w1.alloc (.cells #[.string (mkB p.1), .string (mkB p.2.1), .string (mkB p.2.2.1), .slice a5 p.2.2.2.length c5] 24) := ⟨_, rfl⟩
        rw [← hwP] at V3a V5a Ba ⊢
        rw [← hg5] at V5a ⊢
        clear hwP hg5 V3 BX
        obtain ⟨x0, x1, x2, x3, _, _, _, _⟩ := row4 V5a.out.row
        go_upto_region 4 with (go_at_call 14; refine (join_any2 _ p _ V5a.out.verin (small_mono SMP.out (by omega)) (Nat.le_trans (joinL_len (small_mono SMP.out (by omega))) (by omega))).mono ?_; rintro e w3 ⟨rfl, hb3⟩; rw [JP.out]; have V3c := Lib.hid (V3a.out.below hb3); have Bc := Lib.hid (below_step Ba.out hb3); clear hb3)
        clear x0 x1 x2 x3 V3a V5a Ba
        obtain ⟨x0, x1, x2, x3, _, _, _, _⟩ := row4 V3c.out.row
        go_upto_region 7 with (first
          | (go_at_call 16; refine (vmay_any _ _ SX.out).mono ?_; rintro e w4 ⟨rfl, hb4⟩; rw [mkB_list, OX.out]; replace V3c := Lib.hid (V3c.out.below hb4); replace Bc := Lib.hid (below_step Bc.out hb4); clear hb4; clear x0 x1 x2 x3; obtain ⟨x0, x1, x2, x3, _, _, _, _⟩ := row4 V3c.out.row)
          | (go_at_call 14; refine (join_any2 _ u _ V3c.out.verin (small_mono SMU.out (by omega)) (Nat.le_trans (joinL_len (small_mono SMU.out (by omega))) (by omega))).mono ?_; rintro e w5 ⟨rfl, hb5⟩; rw [JU.out]; have V3d := Lib.hid (V3c.out.below hb5); have Bd := Lib.hid (below_step Bc.out hb5); clear hb5))
        clear x0 x1 x2 x3 V3c Bc
        go_upto_region 8 with (go_at_call 12; refine (split_e _ _ SJ.out).mono ?_; rintro e w6 ⟨a11, c11, rfl, hst6, hb6⟩; rw [mkB_list, VJ.out] at hst6 ⊢; rw [EJ.out]; have V3e := Lib.hid ((V3d.out.below hb6).alloc (.cells #[.string (mkB j.1), .string (mkB j.2.1), .string (mkB j.2.2.1), .slice a11 j.2.2.2.length c11] 24)); have V11 := Lib.hid (VSlot.new hst6); have h := below_step Bd.out hb6; have Be := Lib.hid (h.alloc h.size (.cells #[.string (mkB j.1), .string (mkB j.2.1), .string (mkB j.2.2.1), .slice a11 j.2.2.2.length c11] 24)); clear h hst6 hb6)
        obtain ⟨g11, hg11⟩ : ∃ g, g = w6.heap.size := ⟨_, rfl⟩
        obtain ⟨wR, hwR⟩ : ∃ wR, wR = w6.alloc (.cells #[.string (mkB j.1), .string (mkB j.2.1), .string (mkB j.2.2.1), .slice a11 j.2.2.2.length c11] 24) := ⟨_, rfl⟩
        rw [← hwR] at V3e V11 Be ⊢
        rw [← hg11] at V11 ⊢
        clear hwR hg11 V3d Bd
        obtain ⟨x0, x1, x2, x3, _, _, _, _⟩ := row4 V3e.out.row
        obtain ⟨y0, y1, y2, y3, _, _, _, _⟩ := row4 V11.out.row
        go_wp2_with (first
          | (go_at_call 17; refine (vsame_any _ _ j u _ V11.out.verin V3e.out.verin).mono ?_; rintro e w7 ⟨rfl, hb7⟩; rw [decide_eq_true JEQ.out]; replace Be := Lib.hid (below_step Be.out hb7); clear hb7)
          | (go_at_call 16; refine (vmay_any _ _ SJ.out).mono ?_; rintro e w8 ⟨rfl, hb8⟩; rw [mkB_list, OJ.out]; replace Be := Lib.hid (below_step Be.out hb8); clear hb8)
          | (go_at_call 18; refine (awake3_any _).mono ?_; rintro e w9 ⟨rfl, hb9⟩; have B9 := Lib.hid (below_step Be.out hb9); clear hb9))
        all_goals
          go_ret
          exact ⟨rfl, B9.out⟩

theorem own : ownKnob Try.prog.godebug = none := by kernel_rfl
theorem laidOut : laidOutB Try.prog = true := by kernel_rfl

set_option maxRecDepth 100000 in
theorem lifted (os : Os) (started : os.Started) (H : Type) (enc : TypeId × Value → H) :
    ReturnsInHanded {} Try.checked os 5 .any (Rows.versionBackSpec.pre6 enc Try.prog Try.f5 Rows.versionBackRow.domain false) (Rows.versionBackSpec.post enc Try.prog Try.f5 false true false false) := by
  refine returnsInHanded_of_change (C := Try.checked) own started (by kernel_rfl) Try.func5
    (ChangeSpec.witness6 (enc := enc) (C := Try.checked) false ⟨#[], #[.string ByteArray.empty, .agg #[.string ByteArray.empty, .string ByteArray.empty, .string ByteArray.empty, .slice none 0 0]], []⟩ 8 (by kernel_rfl) (by kernel_rfl) (by kernel_rfl) (by kernel_rfl)) ?_
  intro W base args ds gs before hval0 hW hcnd _
  have hval : ∀ (j : Nat) t v, Try.f5.params[j]? = some t → args[j]? = some v → Value.okWide Try.prog W .any base t v := hval0
  have hW' := hW
  obtain ⟨p, q, hA0, hV, rfl, hfz, hnd⟩ := hW
  have hA : DataW.TrodAll enc Try.prog W 0 (fun _ => true) true Try.f5.params.toList args.toList ds p := hA0
  rw [Try.params5] at hA hval
  obtain ⟨v0, vs0, d0, ds0, p0, q0, hargs, rfl, rfl, h0, r0⟩ := trodAll_cons hA
  obtain ⟨v1, vs1, d1, ds1, p1, q1, rfl, rfl, rfl, h1, r1⟩ := trodAll_cons r0
  obtain ⟨rfl, rfl, rfl⟩ := trodAll_nil r1
  obtain rfl : args = #[v0, v1] := by cases args; simp_all
  obtain ⟨rfl, rfl⟩ := trodVars_none hV
  obtain ⟨a0, rfl, rfl, rfl, w0⟩ := open_string Try.underlying9 (hval 0 9 v0 rfl rfl) h0
  have k1 := h1
  have lt1 : ∀ x ∈ p1, x.block < W.heap.size := by obtain ⟨m, hm⟩ := k1; exact DataW.trod_lt m _ _ _ hm
  obtain ⟨z1, w1⟩ := ver_open (hval 1 24 v1 rfl rfl) h1
  clear hA0 hval0
  refine (walk a0 _ z1 W w0 w1).mono fun e W' ⟨he, bel⟩ => ?_
  subst he
  exact ⟨_, rfl, _, _, _, [], _, [], hW', trodAll_mk1 (shut_bool Try.underlying4 _), (trodAll_cons_mk (shut_string Try.underlying9 w0) (trodAll_cons_mk (Below.trod laidOut (by kernel_rfl) (of_decide_eq_true (by kernel_rfl)) k1 bel lt1) trodAll_mk0)), rfl, bel.frame _, fun h => by cases h⟩

-- the given statement
theorem proved : Rows.VersionBackSaid :=
  OpenClaim.holds_of_wide 5 Try.f5 rfl rfl rfl rfl rfl rfl rfl ⟨rfl, rfl, rfl, rfl, rfl⟩ rfl rfl rfl rfl rfl (by kernel_rfl) Try.func5 (by kernel_rfl)
    (of_decide_eq_true (by kernel_rfl)) (by unfold Func.isWrapper; first | (rw [if_pos (by decide +kernel)]; kernel_rfl) | (rw [if_neg (by decide +kernel)]; exact ⟨rfl, rfl⟩))
    (fun os started H enc _ => lifted os started H enc)
end Go.Proofs.Ytcdflfjbdbofcaa.versionBack
