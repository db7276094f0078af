/- For every version, word and octet (no longer than is looked at): a word more comes ahead or behind as the document says, a higher number behind, a number ahead of a word; no condition. -/
import Derived.Test.YtcdflfjbdbofcaaRows
import Derived.Test.YtcdflfjbdbofcaaVerR
import Derived.Test.YtcdflfjbdbofcaaVerT
import Derived.Test.YtcdflfjbdbofcaaVerU
import Derived.Test.YtcdflfjbdbofcaaVerX
import Derived.Deep.CutRange
import Derived.Deep.DeepCutAuto
import Derived.ProofKit
import Derived.OpenShut
import Derived.ShutString
import Derived.ChangeOld
namespace Go.Proofs.Ytcdflfjbdbofcaa.versionSteps
open Go.ChangeShapes Go.WideShapes Go.ChangeAt Go.RowKit
open Go.ChangeMaps (open_string shut_string)
set_option linter.unusedVariables false

set_option maxRecDepth 100000 in
set_option maxHeartbeats 3200000 in
theorem walk (V : Value) (v : Ver) (a : ByteArray) (n : Int) (w : World) (hv : VerIn w V v ∧ fitsV v) (ha : a.size ≤ maxLen) (wn : (Lit.int .u8 n).wf = true) :
    Calls Try.prog 7 #[V, .string a, .int .u8 n] w fun e w' => e = .returned (.bool true) ∧ Below w.heap.size w w' := by
  obtain ⟨x, hx⟩ : ∃ x, fewL a.data.toList = x := ⟨_, rfl⟩
  have SX : Hid ((mkB x).size ≤ 1000000000) := Lib.hid (by rw [mkB_size, ← hx]; have := fewL_le a.data.toList; omega)
  have LX : Hid (x.length ≤ 400) := Lib.hid (by rw [← hx]; exact fewL_le _)
  have HA := Lib.hid ha
  have HX := Lib.hid hx; clear hx ha
  obtain ⟨hV1, hfit1⟩ := hv
  obtain ⟨p, hp⟩ : ∃ p, fewV v = p := ⟨_, rfl⟩
  have SMP : Hid (smallV 400 p) := Lib.hid (by rw [← hp]; exact fewV_small v)
  have HF1 := Lib.hid hfit1; have HU1 := Lib.hid hp
  obtain ⟨a10, c10, rfl, hst1⟩ := hV1.ex
  have HST1 := Lib.hid hst1
  clear hV1 hfit1 hp hst1
  obtain ⟨hn0, hn1⟩ := bounds_u8 wn
  obtain ⟨m, rfl⟩ : ∃ m : UInt8, (m.toNat : Int) = n := ⟨UInt8.ofNat n.toNat, by simp; omega⟩
  clear hn0 hn1
  go_enter Try.func7, Try.ntmps7
  go_upto_region 1 with fail
  obtain ⟨wA, hwA⟩ : ∃ wA, wA = w.alloc (.cells #[.string (mkB v.1), .string (mkB v.2.1), .string (mkB v.2.2.1), .slice a10 v.2.2.2.length c10] 24) := ⟨_, rfl⟩
  rw [← hwA]
  have vsA : VSlot wA w.heap.size v a10 c10 := by rw [hwA]; exact VSlot.new HST1.out
  have bA : Below w.heap.size w wA := by rw [hwA]; exact (Below.refl _ _).alloc (Nat.le_refl _) _
  obtain ⟨g3, hg3⟩ : ∃ g, g = w.heap.size := ⟨_, rfl⟩
  rw [← hg3] at vsA ⊢
  have VSA := Lib.hid vsA; have BA := Lib.hid bA; have HG3 := Lib.hid hg3
  clear hwA vsA bA hg3
  obtain ⟨c0, c1, c2, c3, f0, f1, f2, f3⟩ := row4 VSA.out.row
  go_cut [1] (fun s0 wx => s0 = .string (mkB x) ∧ ∃ a3 c3, VSlot wx g3 p a3 c3 ∧ Below w.heap.size w wx)
  case first =>
    go_wp2_with (first
      | (go_at_call 10; refine (few_ml _ _ HA.out).mono ?_; rintro e w' ⟨rfl, rfl⟩; rw [HX.out])
      | (go_at_call 11; refine (fewv_any _ v _ VSA.out.verin HF1.out).mono ?_; rintro e w1 ⟨a1, c1', rfl, hst1, hfr1, hb1⟩; rw [HU1.out] at hst1 ⊢; have ST1 := Lib.hid hst1; have FR1 : Hid (∀ ad, a1 = some ad → ad.block ≠ g3) := Lib.hid (fun ad ha => by have h1 := hfr1 ad ha; have h2 := VSA.out.lt; omega); have VS1 := Lib.hid (VSA.out.below hb1); have B1 := Lib.hid (below_step BA.out hb1); clear hst1 hfr1 hb1; obtain ⟨d0, d1, d2, d3, e0, e1, e2, e3⟩ := row4 VS1.out.row))
    go_meet
    refine ⟨rfl, a1, c1', ⟨row4_set VS1.out.row _ _ _ _, (((ST1.out.far FR1.out).far FR1.out).far FR1.out).far FR1.out⟩, ?_⟩
    exact (((B1.out.setCell (Nat.le_of_eq HG3.out.symm) _).setCell (Nat.le_of_eq HG3.out.symm) _).setCell (Nat.le_of_eq HG3.out.symm) _).setCell (Nat.le_of_eq HG3.out.symm) _
  case rest =>
    obtain ⟨rfl, a3, c3, hvs3, hbx⟩ := hcut
    have V3 := Lib.hid hvs3; have BX := Lib.hid hbx
    clear hvs3 hbx c0 c1 c2 f0 f1 f2 f3 VSA BA HST1
    obtain ⟨p1, p2, p3, pre⟩ := p
    obtain ⟨y0, y1, y2, y3, _, _, _, _⟩ := row4 V3.out.row
    simp only at y0 y1 y2 y3
    go_upto_region 3 with fail
    have V3b := Lib.hid (V3.out.alloc (.cells #[.string (mkB p1), .string (mkB p2), .string (mkB p3), .slice a3 pre.length c3] 24)); have V7 := Lib.hid (VSlot.new (v := (p1, p2, p3, pre)) V3.out.st)
    have Bb := Lib.hid (BX.out.alloc BX.out.size (.cells #[.string (mkB p1), .string (mkB p2), .string (mkB p3), .slice a3 pre.length c3] 24))
    have hlt37 := V3.out.lt
    obtain ⟨g7, hg7⟩ : ∃ g, g = wc.heap.size := ⟨_, rfl⟩
    obtain ⟨wb, hwb⟩ : ∃ W, W = wc.alloc (.cells #[.string (mkB p1), .string (mkB p2), .string (mkB p3), .slice a3 pre.length c3] 24) := ⟨_, rfl⟩
    rw [← hg7] at V7 hlt37 ⊢
    simp only at V7
    rw [← hwb] at V3b V7 Bb ⊢
    have N37 : Hid (g3 ≠ g7) := Lib.hid (by omega)
    have hpl : pre.length ≤ 400 := SMP.out.2.2.2.1
    have HLS : Hid ((pre ++ [x]).length = 0 + pre.length + 1) := Lib.hid (by simp)
    have HML : Hid ((pre ++ [x]).map strV = pre.map strV ++ [.string (mkB x)]) := Lib.hid (by rw [List.map_append]; rfl)
    have Ba : Hid (Below wc.heap.size wc wb) := Lib.hid (by rw [hwb]; exact (Below.refl _ _).alloc (Nat.le_refl _) _)
    have HG7 := Lib.hid hg7
    clear hwb hg7 hlt37 y0 y1 y2 y3
    obtain ⟨y0, y1, y2, y3, _, _, _, _⟩ := row4 (V3b.out.alloc (.cells #[] 9)).row
    simp only at y0 y1 y2 y3
    have hs0 := (V3b.out.alloc (.cells #[] 9)).st
    obtain ⟨_, hnil0, hsrc0⟩ := hs0.src
    have HNIL0 := Lib.hid hnil0; have HSRC0 := Lib.hid hsrc0
    have HO0 := Lib.hid (World.ownsRow_lit (base := wb.heap.size) (e := 9) (size := 1) wb #[] 0 (Nat.le_refl _) (by decide) rfl)
    have E0 : Hid (Below wb.heap.size wb (wb.alloc (.cells #[] 9))) := Lib.hid ((Below.refl _ _).alloc (Nat.le_refl _) _)
    clear hs0 hnil0 hsrc0
    go_upto_region 4 with (first
      | (at_builtin; refine wpList_append_src rfl (.tmp 33) (.tmp 35) 22 rfl wb.heap.size 9 (.string ByteArray.empty) 1 16 Try.underlying22 Try.info_str rfl (by decide) _ 0 [] rfl HO0.out _ _ c3 (pre.map strV) rfl (by rw [List.length_map, Nat.mul_one]) HNIL0.out HSRC0.out (strs_one _) (by omega) (by unfold maxLen; omega) E0.out.size ?_; intro v4 w4 ho4 hb4; rw [List.nil_append] at ho4; have HO4 := Lib.hid ho4; have E4 := Lib.hid (E0.out.trans hb4); clear ho4 hb4)
      | (at_builtin; refine wpList_append_new rfl (.tmp 36) (.tmp 38) 22 rfl wb.heap.size 9 (.string ByteArray.empty) 1 16 Try.underlying22 Try.info_str rfl (by decide) _ _ _ rfl HO4.out [.string (mkB x)] rfl rfl rfl (by omega) (by unfold maxLen; omega) E4.out.size ?_; intro v5 w5 ho5 hb5; obtain ⟨a7, c7, rfl, hst7, hfr7⟩ := strsO (ls := pre ++ [x]) (by rw [HLS.out, HML.out]; exact ho5); have ST7 := Lib.hid hst7; have FR7 := Lib.hid hfr7; have E5 := Lib.hid (E4.out.trans hb5); clear ho5 hb5 hst7 hfr7; obtain ⟨z0, z1, z2, z3, f0, f1, f2, f3⟩ := row4 (V7.out.below E5.out).row; simp only at z0 z1 z2 z3))
    have e6 : Below wc.heap.size wc (w5.setCell ⟨g7, 3, none⟩ (.slice a7 (pre.length + 1) c7)) := (below_step Ba.out E5.out).setCell (Nat.le_of_eq HG7.out.symm) _
    have V3c := Lib.hid (V3.out.below e6); have Bc := Lib.hid (below_step BX.out e6)
    have V7c : Hid (VSlot (w5.setCell ⟨g7, 3, none⟩ (.slice a7 (pre.length + 1) c7)) g7 (p1, p2, p3, pre ++ [x]) a7 c7) := Lib.hid ⟨by
      have h := row4_set3 (V7.out.below E5.out).row (.slice a7 (pre.length + 1) c7)
      have hl : (pre ++ [x]).length = pre.length + 1 := by simp
      simp only [hl]
      exact h, by
      have h := ST7.out.far (g := g7) (i := 3) (y := .slice a7 (pre.length + 1) c7) (fun ad ha => by have h1 := FR7.out ad ha; have h2 := V7.out.lt; omega)
      exact h⟩
    obtain ⟨w6, hw6⟩ : ∃ W, W = w5.setCell ⟨g7, 3, none⟩ (.slice a7 (pre.length + 1) c7) := ⟨_, rfl⟩
    rw [← hw6] at V3c V7c Bc ⊢
    clear e6 hw6 z0 z1 z2 z3 f0 f1 f2 f3 y0 y1 y2 y3 V3 V7 V3b BX Bb Ba E0 E4 E5 ST7 FR7 HO0 HO4 HNIL0 HSRC0 hpl
    have LX1 := LX.out
    have SMQ : Hid (smallV 401 (p1, p2, p3, pre ++ [x])) := Lib.hid (small_more SMP.out x LX1)
    clear LX1
    obtain ⟨px, hpx⟩ : ∃ q, pre ++ [x] = q := ⟨_, rfl⟩
    rw [hpx] at V7c SMQ HLS
    have HPX := Lib.hid hpx
    clear hpx HML
    obtain ⟨f, hf⟩ : ∃ f, fitL (p1, p2, p3, pre) = f := ⟨_, rfl⟩
    obtain ⟨f2, hf2⟩ : ∃ f, fitL (p1, p2, p3, px) = f := ⟨_, rfl⟩
    cases f
    · cases f2
      · have hjp : joinE (p1, p2, p3, pre) = ([], 1) := by rw [joinE_of hf, if_neg (by simp)]
        have hjq : joinE (p1, p2, p3, px) = ([], 1) := by rw [joinE_of hf2, if_neg (by simp)]
        have JP := Lib.hid hjp; have JQ := Lib.hid hjq; have HF := Lib.hid hf; have HF' := Lib.hid hf2
        clear hjp hjq hf hf2
        obtain ⟨y0, y1, y2, y3, _, _, _, _⟩ := row4 V3c.out.row
        simp only at y0 y1 y2 y3
        go_upto_region 5 with (go_at_call 14; refine (join_any2 _ (p1, p2, p3, pre) _ V3c.out.verin (small_mono SMP.out (by omega)) (Nat.le_trans (joinL_len (small_mono SMP.out (by omega))) (by omega))).mono ?_; rintro e w7 ⟨rfl, hb7⟩; rw [JP.out]; have V3d := Lib.hid (V3c.out.below hb7); have V7d := Lib.hid (V7c.out.below hb7); have Bd := Lib.hid (below_step Bc.out hb7); clear hb7)
        clear y0 y1 y2 y3 V3c V7c Bc
        obtain ⟨y0, y1, y2, y3, _, _, _, _⟩ := row4 V7d.out.row
        simp only at y0 y1 y2 y3
        go_upto_region 6 with (go_at_call 14; refine (join_any2 _ (p1, p2, p3, px) _ V7d.out.verin (small_mono SMQ.out (by omega)) (Nat.le_trans (joinL_len (small_mono SMQ.out (by omega))) (by omega))).mono ?_; rintro e w8 ⟨rfl, hb8⟩; rw [JQ.out]; have V3e := Lib.hid (V3d.out.below hb8); have V7e := Lib.hid (V7d.out.below hb8); have Be := Lib.hid (below_step Bd.out hb8); clear hb8)
        clear y0 y1 y2 y3 V3d V7d Bd
        go_wp2_with (go_at_call 18; refine (awake3_any _).mono ?_; rintro e w9 ⟨rfl, hb9⟩; have B9 := Lib.hid (below_step Be.out hb9); clear hb9)
        go_ret
        exact ⟨rfl, B9.out⟩
      · have hjp : joinE (p1, p2, p3, pre) = ([], 1) := by rw [joinE_of hf, if_neg (by simp)]
        have hjq : joinE (p1, p2, p3, px) = (joinL (p1, p2, p3, px), 0) := by rw [joinE_of hf2, if_pos rfl]
        have JP := Lib.hid hjp; have JQ := Lib.hid hjq; have HF := Lib.hid hf; have HF' := Lib.hid hf2
        clear hjp hjq hf hf2
        obtain ⟨y0, y1, y2, y3, _, _, _, _⟩ := row4 V3c.out.row
        simp only at y0 y1 y2 y3
        go_upto_region 5 with (go_at_call 14; refine (join_any2 _ (p1, p2, p3, pre) _ V3c.out.verin (small_mono SMP.out (by omega)) (Nat.le_trans (joinL_len (small_mono SMP.out (by omega))) (by omega))).mono ?_; rintro e w7 ⟨rfl, hb7⟩; rw [JP.out]; have V3d := Lib.hid (V3c.out.below hb7); have V7d := Lib.hid (V7c.out.below hb7); have Bd := Lib.hid (below_step Bc.out hb7); clear hb7)
        clear y0 y1 y2 y3 V3c V7c Bc
        obtain ⟨y0, y1, y2, y3, _, _, _, _⟩ := row4 V7d.out.row
        simp only at y0 y1 y2 y3
        go_upto_region 6 with (go_at_call 14; refine (join_any2 _ (p1, p2, p3, px) _ V7d.out.verin (small_mono SMQ.out (by omega)) (Nat.le_trans (joinL_len (small_mono SMQ.out (by omega))) (by omega))).mono ?_; rintro e w8 ⟨rfl, hb8⟩; rw [JQ.out]; have V3e := Lib.hid (V3d.out.below hb8); have V7e := Lib.hid (V7d.out.below hb8); have Be := Lib.hid (below_step Bd.out hb8); clear hb8)
        clear y0 y1 y2 y3 V3d V7d Bd
        go_wp2_with (go_at_call 18; refine (awake3_any _).mono ?_; rintro e w9 ⟨rfl, hb9⟩; have B9 := Lib.hid (below_step Be.out hb9); clear hb9)
        go_ret
        exact ⟨rfl, B9.out⟩
    · cases f2
      · have hjp : joinE (p1, p2, p3, pre) = (joinL (p1, p2, p3, pre), 0) := by rw [joinE_of hf, if_pos rfl]
        have hjq : joinE (p1, p2, p3, px) = ([], 1) := by rw [joinE_of hf2, if_neg (by simp)]
        have JP := Lib.hid hjp; have JQ := Lib.hid hjq; have HF := Lib.hid hf; have HF' := Lib.hid hf2
        clear hjp hjq hf hf2
        obtain ⟨y0, y1, y2, y3, _, _, _, _⟩ := row4 V3c.out.row
        simp only at y0 y1 y2 y3
        go_upto_region 5 with (go_at_call 14; refine (join_any2 _ (p1, p2, p3, pre) _ V3c.out.verin (small_mono SMP.out (by omega)) (Nat.le_trans (joinL_len (small_mono SMP.out (by omega))) (by omega))).mono ?_; rintro e w7 ⟨rfl, hb7⟩; rw [JP.out]; have V3d := Lib.hid (V3c.out.below hb7); have V7d := Lib.hid (V7c.out.below hb7); have Bd := Lib.hid (below_step Bc.out hb7); clear hb7)
        clear y0 y1 y2 y3 V3c V7c Bc
        obtain ⟨y0, y1, y2, y3, _, _, _, _⟩ := row4 V7d.out.row
        simp only at y0 y1 y2 y3
        go_upto_region 6 with (go_at_call 14; refine (join_any2 _ (p1, p2, p3, px) _ V7d.out.verin (small_mono SMQ.out (by omega)) (Nat.le_trans (joinL_len (small_mono SMQ.out (by omega))) (by omega))).mono ?_; rintro e w8 ⟨rfl, hb8⟩; rw [JQ.out]; have V3e := Lib.hid (V3d.out.below hb8); have V7e := Lib.hid (V7d.out.below hb8); have Be := Lib.hid (below_step Bd.out hb8); clear hb8)
        clear y0 y1 y2 y3 V3d V7d Bd
        go_wp2_with (go_at_call 18; refine (awake3_any _).mono ?_; rintro e w9 ⟨rfl, hb9⟩; have B9 := Lib.hid (below_step Be.out hb9); clear hb9)
        go_ret
        exact ⟨rfl, B9.out⟩
      · have hjp : joinE (p1, p2, p3, pre) = (joinL (p1, p2, p3, pre), 0) := by rw [joinE_of hf, if_pos rfl]
        have hjq : joinE (p1, p2, p3, px) = (joinL (p1, p2, p3, px), 0) := by rw [joinE_of hf2, if_pos rfl]
        have JP := Lib.hid hjp; have JQ := Lib.hid hjq; have HF := Lib.hid hf; have HF' := Lib.hid hf2
        clear hjp hjq hf hf2
        obtain ⟨y0, y1, y2, y3, _, _, _, _⟩ := row4 V3c.out.row
        simp only at y0 y1 y2 y3
        go_upto_region 5 with (go_at_call 14; refine (join_any2 _ (p1, p2, p3, pre) _ V3c.out.verin (small_mono SMP.out (by omega)) (Nat.le_trans (joinL_len (small_mono SMP.out (by omega))) (by omega))).mono ?_; rintro e w7 ⟨rfl, hb7⟩; rw [JP.out]; have V3d := Lib.hid (V3c.out.below hb7); have V7d := Lib.hid (V7c.out.below hb7); have Bd := Lib.hid (below_step Bc.out hb7); clear hb7)
        clear y0 y1 y2 y3 V3c V7c Bc
        obtain ⟨y0, y1, y2, y3, _, _, _, _⟩ := row4 V7d.out.row
        simp only at y0 y1 y2 y3
        go_upto_region 6 with (go_at_call 14; refine (join_any2 _ (p1, p2, p3, px) _ V7d.out.verin (small_mono SMQ.out (by omega)) (Nat.le_trans (joinL_len (small_mono SMQ.out (by omega))) (by omega))).mono ?_; rintro e w8 ⟨rfl, hb8⟩; rw [JQ.out]; have V3e := Lib.hid (V3d.out.below hb8); have V7e := Lib.hid (V7d.out.below hb8); have Be := Lib.hid (below_step Bd.out hb8); clear hb8)
        clear y0 y1 y2 y3 V3d V7d Bd
        obtain ⟨T, hT⟩ : ∃ T : Int, (if pre = [] then 1 else -1) = T := ⟨_, rfl⟩
        have hf0 := HF.out; have hf20 := HF'.out
        have hm3 : mayL p3 = true := by
          have h := hf0
          unfold fitL at h
          simp only [Bool.and_eq_true] at h
          exact h.1.2
        have hfu : fitL (p1, p2, 49 :: p3, px) = true := fit_patch hf0 hf20 (may_one hm3)
        have C1 : Hid (vcmpE (joinL (p1, p2, p3, pre)) (joinL (p1, p2, p3, px)) = (T, 0)) := Lib.hid (by rw [vcmpE_of (ok_join hf0).1 (ok_join hf20).1, if_pos ⟨rfl, rfl⟩]; unfold cmpT; rw [(ok_join hf0).2, (ok_join hf20).2]; rw [← HPX.out, steps_word, hT])
        have C2 : Hid (vcmpE (joinL (p1, p2, p3, pre)) (joinL (p1, p2, 49 :: p3, px)) = (-1, 0)) := Lib.hid (by rw [vcmpE_of (ok_join hf0).1 (ok_join hfu).1, if_pos ⟨rfl, rfl⟩]; unfold cmpT; rw [(ok_join hf0).2, (ok_join hfu).2]; rw [steps_up])
        have JU : Hid (joinE (p1, p2, 49 :: p3, px) = (joinL (p1, p2, 49 :: p3, px), 0)) := Lib.hid (by rw [joinE_of hfu, if_pos rfl])
        have SMU : Hid (smallV 402 (p1, p2, 49 :: p3, px)) := Lib.hid (small_patch SMQ.out)
        have SJP : Hid ((mkB (joinL (p1, p2, p3, pre))).size ≤ 1000000000) := Lib.hid (by rw [mkB_size]; have := joinL_len (small_mono SMP.out (by omega)); omega)
        have SJQ : Hid ((mkB (joinL (p1, p2, p3, px))).size ≤ 1000000000) := Lib.hid (by rw [mkB_size]; have := joinL_len (small_mono SMQ.out (by omega)); omega)
        have SJU : Hid ((mkB (joinL (p1, p2, 49 :: p3, px))).size ≤ 1000000000) := Lib.hid (by rw [mkB_size]; have := joinL_len (small_mono SMU.out (by omega)); omega)
        have HT := Lib.hid hT; clear hT hf0 hf20 hm3 hfu
        obtain ⟨x0, x1, x2, x3, _, _, _, _⟩ := row4 V3e.out.row
        simp only at x0 x1 x2 x3
        go_upto_if 61 with (fail)
        go_cut [12] (fun s12 wx => s12 = .int .i64 T ∧ wx = w8)
        case first =>
          by_cases e1 : pre.length = 0
          · have d1 : ((pre.length : Int) == 0) = true := by rw [e1]; rfl
            go_wp2_with fail
            go_meet
            exact ⟨by rw [← HT.out, if_pos (List.length_eq_zero_iff.1 e1)], rfl⟩
          · have d1 : ((pre.length : Int) == 0) = false := by rw [beq_eq_false_iff_ne]; omega
            go_wp2_with fail
            go_meet
            exact ⟨by rw [← HT.out, if_neg (fun h => e1 (List.length_eq_zero_iff.2 h))], rfl⟩
        case rest =>
          obtain ⟨rfl, rfl⟩ := hcut
          clear x0 x1 x2 x3
          go_upto_region 12 with (go_at_call 19; refine (vcmp_any _ _ _ SJP.out SJQ.out).mono ?_; rintro e w9 ⟨rfl, hb9⟩; simp only [mkB_list]; rw [C1.out]; have V3f := Lib.hid (V3e.out.below hb9); have V7f := Lib.hid (V7e.out.below hb9); have Bf := Lib.hid (below_step Be.out hb9); clear hb9)
          obtain ⟨x0, x1, x2, x3, _, _, _, _⟩ := row4 V3f.out.row
          simp only at x0 x1 x2 x3
          go_upto_region 13 with fail
          obtain ⟨g15, hg15⟩ : ∃ g, g = w9.heap.size := ⟨_, rfl⟩
          obtain ⟨w10, hw10⟩ : ∃ W, W = w9.alloc (.cells #[.string (mkB p1), .string (mkB p2), .string (mkB p3), .slice a3 pre.length c3] 24) := ⟨_, rfl⟩
          have V15 : Hid (VSlot w10 g15 (p1, p2, p3, pre) a3 c3) := Lib.hid (by rw [hw10, hg15]; exact VSlot.new (v := (p1, p2, p3, pre)) V3f.out.st)
          have V3g : Hid (VSlot w10 g3 (p1, p2, p3, pre) a3 c3) := Lib.hid (by rw [hw10]; exact V3f.out.alloc _)
          have V7g : Hid (VSlot w10 g7 (p1, p2, p3, px) a7 c7) := Lib.hid (by rw [hw10]; exact V7f.out.alloc _)
          have Bg : Hid (Below w9.heap.size w9 w10) := Lib.hid (by rw [hw10]; exact (Below.refl _ _).alloc (Nat.le_refl _) _)
          have HG15 : Hid (w9.heap.size ≤ g15) := Lib.hid (Nat.le_of_eq hg15.symm)
          have N15 : Hid (g3 ≠ g15) := Lib.hid (by have := V3f.out.lt; omega)
          have N15' : Hid (g7 ≠ g15) := Lib.hid (by have := V7f.out.lt; omega)
          have S3 := Lib.hid V3f.out.st; have S7 := Lib.hid V7f.out.st
          rw [← hw10, ← hg15]
          clear hg15 hw10 x0 x1 x2 x3
          obtain ⟨x0, x1, x2, x3, _, _, _, _⟩ := row4 V3g.out.row
          obtain ⟨y0, y1, y2, y3, _, _, _, _⟩ := row4 V7g.out.row
          obtain ⟨z0, z1, z2, z3, k0, k1, k2, k3⟩ := row4 V15.out.row
          simp only at x0 x1 x2 x3 y0 y1 y2 y3 z0 z1 z2 z3
          go_cut [12] (fun s12 wx => s12 = .int .i64 T ∧ VSlot wx g15 (p1, p2, 49 :: p3, px) a7 c7 ∧ Below w9.heap.size w9 wx)
          case first =>
            have hsz : ¬ 9223372036854775807 < 1 + (mkB p3).size := by rw [mkB_size]; have : p3.length ≤ 400 := SMP.out.2.2.1; omega
            go_region
            go_wp2_with fail
            go_meet
            have e13 : Below w9.heap.size w9 ((w10.setCell ⟨g15, 2, none⟩ (.string ((⟨#[49]⟩ : ByteArray) ++ mkB p3))).setCell ⟨g15, 3, none⟩ (.slice a7 px.length c7)).drew := below_step ((Bg.out.setCell HG15.out _).setCell HG15.out _) (below_q ⟨1, rfl⟩)
            exact ⟨rfl, V15.out.patch (mkB_cons 49 p3) (V7f.out.st.below e13), e13⟩
          case rest =>
            obtain ⟨rfl, hv15, hb13⟩ := hcut
            have V15b := Lib.hid hv15; have V3h := Lib.hid (V3f.out.below hb13); have Bh := Lib.hid (below_step Bf.out hb13); have HG15b := Lib.hid (Nat.le_trans Bf.out.size HG15.out)
            clear hv15 hb13 V15 V3g V7g Bg x0 x1 x2 x3 y0 y1 y2 y3 z0 z1 z2 z3 k0 k1 k2 k3 V3f V7f Bf
            obtain ⟨z0, z1, z2, z3, k0, k1, k2, k3⟩ := row4 V15b.out.row
            simp only at z0 z1 z2 z3
            go_upto_region 15 with (go_at_call 14; refine (join_any2 _ (p1, p2, 49 :: p3, px) _ V15b.out.verin (small_mono SMU.out (by omega)) (Nat.le_trans (joinL_len (small_mono SMU.out (by omega))) (by omega))).mono ?_; rintro e w11 ⟨rfl, hb11⟩; rw [JU.out]; have V3i := Lib.hid (V3h.out.below hb11); have V15c := Lib.hid (V15b.out.below hb11); have Bi := Lib.hid (below_step Bh.out hb11); clear hb11)
            clear z0 z1 z2 z3 k0 k1 k2 k3 V15b V3h Bh
            go_upto_region 16 with (go_at_call 19; refine (vcmp_any _ _ _ SJP.out SJU.out).mono ?_; rintro e w12 ⟨rfl, hb12⟩; simp only [mkB_list]; rw [C2.out]; have V3j := Lib.hid (V3i.out.below hb12); have V15d := Lib.hid (V15c.out.below hb12); have Bj := Lib.hid (below_step Bi.out hb12); clear hb12)
            clear V15c V3i Bi
            obtain ⟨x0, x1, x2, x3, _, _, _, _⟩ := row4 V3j.out.row
            obtain ⟨z0, z1, z2, z3, k0, k1, k2, k3⟩ := row4 V15d.out.row
            simp only at z0 z1 z2 z3 x0 x1 x2 x3
            go_upto_if 89 with (fail)
            go_cut [16, 17, 18, 19] (fun s16 s17 s18 s19 wx => s17 = .int .i64 0 ∧ s18 = .int .i64 (-1) ∧ s19 = .int .i64 0 ∧ VSlot wx g3 (p1, p2, p3, pre) a3 c3 ∧ Below w.heap.size w wx)
            case first =>
              obtain ⟨b8, hb8⟩ : ∃ b, ((mkB p3).toList == [48]) = b := ⟨_, rfl⟩
              rw [hb8]
              have E8 := Lib.hid hb8; clear hb8
              cases b8
              · go_wp2_with fail
                go_meet
                exact ⟨rfl, rfl, rfl, V3j.out, Bj.out⟩
              · have e8 : p3 = [48] := by
                  have h := E8.out
                  rw [Lib.toList_data, mkB_list] at h
                  exact beq_iff_eq.1 h
                have hf0 := HF.out; have hf20 := HF'.out
                have hfu : fitL (p1, p2, [55], px) = true := fit_patch hf0 hf20 (by decide)
                have C3 : Hid (vcmpE (joinL (p1, p2, p3, pre)) (joinL (p1, p2, [55], px)) = (-1, 0)) := Lib.hid (by rw [vcmpE_of (ok_join hf0).1 (ok_join hfu).1, if_pos ⟨rfl, rfl⟩]; unfold cmpT; rw [(ok_join hf0).2, (ok_join hfu).2]; rw [e8, steps_seven])
                have JV : Hid (joinE (p1, p2, [55], px) = (joinL (p1, p2, [55], px), 0)) := Lib.hid (by rw [joinE_of hfu, if_pos rfl])
                have SMV : Hid (smallV 402 (p1, p2, [55], px)) := Lib.hid (small_seven SMU.out)
                have SJV : Hid ((mkB (joinL (p1, p2, [55], px))).size ≤ 1000000000) := Lib.hid (by rw [mkB_size]; have := joinL_len (small_mono SMV.out (by omega)); omega)
                clear hf0 hf20 hfu e8
                go_upto_region 18 with fail
                have B17 : Hid (Below w.heap.size w (w12.setCell ⟨g15, 2, none⟩ (.string (⟨#[55]⟩ : ByteArray)))) := Lib.hid (Bj.out.setCell HG15b.out _)
                have V17 := Lib.hid (V15d.out.patch2 (s := (⟨#[55]⟩ : ByteArray)) (p' := [55]) rfl (S7.out.far0 HG15.out V15d.out.st))
                have V3k := Lib.hid (V3j.out.far0 (i := 2) (y := .string (⟨#[55]⟩ : ByteArray)) S3.out HG15.out N15.out)
                obtain ⟨w13, hw13⟩ : ∃ W, W = w12.setCell ⟨g15, 2, none⟩ (.string (⟨#[55]⟩ : ByteArray)) := ⟨_, rfl⟩
                rw [← hw13] at B17 V17 V3k ⊢
                clear hw13 x0 x1 x2 x3 z0 z1 z2 z3 k0 k1 k2 k3 V15d V3j Bj
                obtain ⟨z0, z1, z2, z3, k0, k1, k2, k3⟩ := row4 V17.out.row
                simp only at z0 z1 z2 z3
                go_upto_region 19 with (go_at_call 14; refine (join_any2 _ (p1, p2, [55], px) _ V17.out.verin (small_mono SMV.out (by omega)) (Nat.le_trans (joinL_len (small_mono SMV.out (by omega))) (by omega))).mono ?_; rintro e w14 ⟨rfl, hb14⟩; rw [JV.out]; have V3l := Lib.hid (V3k.out.below hb14); have Bl := Lib.hid (below_step B17.out hb14); clear hb14)
                clear z0 z1 z2 z3 k0 k1 k2 k3 V17 V3k B17
                go_wp2_with (go_at_call 19; refine (vcmp_any _ _ _ SJP.out SJV.out).mono ?_; rintro e w15 ⟨rfl, hb15⟩; simp only [mkB_list]; rw [C3.out]; have V3m := Lib.hid (V3l.out.below hb15); have Bm := Lib.hid (below_step Bl.out hb15); clear hb15)
                go_meet
                exact ⟨rfl, rfl, rfl, V3m.out, Bm.out⟩
            case rest =>
              obtain ⟨rfl, rfl, rfl, hv3, hbx⟩ := hcut
              have V3n := Lib.hid hv3; have Bn := Lib.hid hbx
              clear hv3 hbx x0 x1 x2 x3 z0 z1 z2 z3 k0 k1 k2 k3 V15d V3j Bj HG15 HG15b N15 N15' S3 S7 JU C1 C2 SMU SJU
              obtain ⟨wB, rfl⟩ : ∃ W, W = wc := ⟨_, rfl⟩
              go_upto_region 20 with fail
              obtain ⟨x0, x1, x2, x3, _, _, _, _⟩ := row4 V3n.out.row
              simp only at x0 x1 x2 x3
              go_cut [20, 21] (fun s20 s21 wx => ∃ ga gb, s20 = .pointer (some ⟨ga, 0, none⟩) ∧ s21 = .pointer (some ⟨gb, 0, none⟩) ∧ ga ≠ gb ∧ wB.heap.size ≤ ga ∧ wB.heap.size ≤ gb ∧ VSlot wx ga (p1, p2, p3, pre) a3 c3 ∧ VSlot wx gb (p1, p2, p3, pre) a3 c3 ∧ Below wB.heap.size wB wx)
              case first =>
                have y0 : ∀ o, (wB.alloc o).cell? ⟨g3, 0, none⟩ = some (.string (mkB p1)) := fun o => cell_alloc x0 o
                have z0 : ∀ o o', ((wB.alloc o).alloc o').cell? ⟨g3, 0, none⟩ = some (.string (mkB p1)) := fun o o' => cell_alloc (cell_alloc x0 o) o'
                have y1 : ∀ o, (wB.alloc o).cell? ⟨g3, 1, none⟩ = some (.string (mkB p2)) := fun o => cell_alloc x1 o
                have z1 : ∀ o o', ((wB.alloc o).alloc o').cell? ⟨g3, 1, none⟩ = some (.string (mkB p2)) := fun o o' => cell_alloc (cell_alloc x1 o) o'
                have y2 : ∀ o, (wB.alloc o).cell? ⟨g3, 2, none⟩ = some (.string (mkB p3)) := fun o => cell_alloc x2 o
                have z2 : ∀ o o', ((wB.alloc o).alloc o').cell? ⟨g3, 2, none⟩ = some (.string (mkB p3)) := fun o o' => cell_alloc (cell_alloc x2 o) o'
                have y3 : ∀ o, (wB.alloc o).cell? ⟨g3, 3, none⟩ = some (.slice a3 pre.length c3) := fun o => cell_alloc x3 o
                have z3 : ∀ o o', ((wB.alloc o).alloc o').cell? ⟨g3, 3, none⟩ = some (.slice a3 pre.length c3) := fun o o' => cell_alloc (cell_alloc x3 o) o'
                have st0 := Lib.hid V3n.out.st
                go_region
                all_goals
                  go_wp2_with fail
                  go_meet
                  obtain ⟨t1, t2, t3⟩ := two_new (a := p1) (b := p2) (p := p3) st0.out rfl
                  first
                    | exact ⟨_, _, rfl, rfl, by omega, Nat.le_refl _, by omega, t1, t2, t3⟩
                    | exact ⟨_, _, rfl, rfl, by omega, by omega, Nat.le_refl _, t2, t1, t3⟩
              case rest =>
                obtain ⟨ga, gb, rfl, rfl, hab, hga, hgb, hva, hvb, hbc⟩ := hcut
                have HAB := Lib.hid hab; have HGA := Lib.hid hga; have HGB := Lib.hid hgb; have HVA := Lib.hid hva; have HVB := Lib.hid hvb; have HBC := Lib.hid hbc
                clear hab hga hgb hva hvb hbc x0 x1 x2 x3
                obtain ⟨pd, hpd⟩ : ∃ q, pre ++ [[49 + m % 9]] = q := ⟨_, rfl⟩
                obtain ⟨pl, hpl⟩ : ∃ q, pre ++ [[97 + m % 26]] = q := ⟨_, rfl⟩
                have HPD := Lib.hid hpd; have HPL := Lib.hid hpl
                have hf0 := HF.out
                have hfd : fitL (p1, p2, p3, pd) = true := by rw [← hpd]; exact fit_more hf0 _ (word_dig m)
                have hfl : fitL (p1, p2, p3, pl) = true := by rw [← hpl]; exact fit_more hf0 _ (word_let m)
                have C4 : Hid (vcmpE (joinL (p1, p2, p3, pd)) (joinL (p1, p2, p3, pl)) = (-1, 0)) := Lib.hid (by rw [vcmpE_of (ok_join hfd).1 (ok_join hfl).1, if_pos ⟨rfl, rfl⟩]; unfold cmpT; rw [(ok_join hfd).2, (ok_join hfl).2]; rw [← hpd, ← hpl, steps_kind _ _ _ _ _ _ (may_dig m) (may_let m)])
                have JD : Hid (joinE (p1, p2, p3, pd) = (joinL (p1, p2, p3, pd), 0)) := Lib.hid (by rw [joinE_of hfd, if_pos rfl])
                have JL : Hid (joinE (p1, p2, p3, pl) = (joinL (p1, p2, p3, pl), 0)) := Lib.hid (by rw [joinE_of hfl, if_pos rfl])
                have SMD : Hid (smallV 401 (p1, p2, p3, pd)) := Lib.hid (by rw [← hpd]; exact small_more SMP.out _ (by simp))
                have SML : Hid (smallV 401 (p1, p2, p3, pl)) := Lib.hid (by rw [← hpl]; exact small_more SMP.out _ (by simp))
                have SJD : Hid ((mkB (joinL (p1, p2, p3, pd))).size ≤ 1000000000) := Lib.hid (by rw [mkB_size]; have := joinL_len (small_mono SMD.out (by omega)); omega)
                have SJL : Hid ((mkB (joinL (p1, p2, p3, pl))).size ≤ 1000000000) := Lib.hid (by rw [mkB_size]; have := joinL_len (small_mono SML.out (by omega)); omega)
                clear hpd hpl hf0 hfd hfl
                go_upto_region 21 with fail
                go_cut [12] (fun s12 wx => s12 = .int .i64 T ∧ (∃ a k, VSlot wx ga (p1, p2, p3, pd) a k) ∧ (∃ a k, VSlot wx gb (p1, p2, p3, pl) a k) ∧ Below wB.heap.size wB wx)
                case first =>
                  rw [fr_split _ rfl]
                  refine reg21 (c := ⟨_, _, g3, ga, gb, a3, c3, p1, p2, p3, pre, m, wB⟩) ⟨rfl, rfl, rfl, rfl, rfl, V3n.out, HGA.out, HGB.out, SMP.out.2.2.2.1⟩ HVA.out HVB.out HAB.out HBC.out ?_
                  intro f w' h1 h2 h3
                  unfold fr
                  simp only [List.take_succ_cons, List.take_zero, List.range, List.range.loop, List.map_cons, List.map_nil, List.cons_append, List.nil_append]
                  go_wp2_with fail
                  go_meet
                  exact ⟨rfl, by rw [← HPD.out]; exact h1, by rw [← HPL.out]; exact h2, h3⟩
                case rest =>
                  obtain ⟨rfl, ⟨aa, ca, hva⟩, ⟨ab, cb, hvb⟩, hbd⟩ := hcut
                  have VA := Lib.hid hva; have VB := Lib.hid hvb; have Bo := Lib.hid (below_step Bn.out hbd)
                  clear hva hvb hbd HVA HVB HBC HGA HGB HAB V3n Bn HPD HPL
                  obtain ⟨x0, x1, x2, x3, _, _, _, _⟩ := row4 VA.out.row
                  simp only at x0 x1 x2 x3
                  go_upto_region 23 with (go_at_call 14; refine (join_any2 _ (p1, p2, p3, pd) _ VA.out.verin (small_mono SMD.out (by omega)) (Nat.le_trans (joinL_len (small_mono SMD.out (by omega))) (by omega))).mono ?_; rintro e w17 ⟨rfl, hb17⟩; rw [JD.out]; have VBb := Lib.hid (VB.out.below hb17); have Bp := Lib.hid (below_step Bo.out hb17); clear hb17)
                  clear x0 x1 x2 x3 VA VB Bo
                  obtain ⟨x0, x1, x2, x3, _, _, _, _⟩ := row4 VBb.out.row
                  simp only at x0 x1 x2 x3
                  go_upto_region 24 with (go_at_call 14; refine (join_any2 _ (p1, p2, p3, pl) _ VBb.out.verin (small_mono SML.out (by omega)) (Nat.le_trans (joinL_len (small_mono SML.out (by omega))) (by omega))).mono ?_; rintro e w18 ⟨rfl, hb18⟩; rw [JL.out]; have Bq := Lib.hid (below_step Bp.out hb18); clear hb18)
                  clear x0 x1 x2 x3 VBb Bp
                  go_upto_region 25 with (go_at_call 19; refine (vcmp_any _ _ _ SJD.out SJL.out).mono ?_; rintro e w19 ⟨rfl, hb19⟩; simp only [mkB_list]; rw [C4.out]; have Br := Lib.hid (below_step Bq.out hb19); clear hb19)
                  go_wp2_with (go_at_call 18; refine (awake3_any _).mono ?_; rintro e w9 ⟨rfl, hb9⟩; have B9 := Lib.hid (below_step Br.out hb9); clear hb9)
                  go_ret
                  exact ⟨rfl, B9.out⟩

theorem own : ownKnob Try.prog.godebug = none := by kernel_rfl
theorem laidOut : laidOutB Try.prog = true := by kernel_rfl

set_option maxRecDepth 100000 in
theorem lifted (os : Os) (started : os.Started) (H : Type) (enc : TypeId × Value → H) :
    ReturnsInHanded {} Try.checked os 7 .any (Rows.versionStepsSpec.pre6 enc Try.prog Try.f7 Rows.versionStepsRow.domain false) (Rows.versionStepsSpec.post enc Try.prog Try.f7 false true false false) := by
  refine returnsInHanded_of_change (C := Try.checked) own started (by kernel_rfl) Try.func7
    (ChangeSpec.witness6 (enc := enc) (C := Try.checked) false ⟨#[], #[.agg #[.string ByteArray.empty, .string ByteArray.empty, .string ByteArray.empty, .slice none 0 0], .string ByteArray.empty, .int .u8 0], []⟩ 8 (by kernel_rfl) (by kernel_rfl) (by kernel_rfl) (by kernel_rfl)) ?_
  intro W base args ds gs before hval0 hW hcnd _
  have hval : ∀ (j : Nat) t v, Try.f7.params[j]? = some t → args[j]? = some v → Value.okWide Try.prog W .any base t v := hval0
  have hW' := hW
  obtain ⟨p, q, hA0, hV, rfl, hfz, hnd⟩ := hW
  have hA : DataW.TrodAll enc Try.prog W 0 (fun _ => true) true Try.f7.params.toList args.toList ds p := hA0
  rw [Try.params7] at hA hval
  obtain ⟨v0, vs0, d0, ds0, p0, q0, hargs, rfl, rfl, h0, r0⟩ := trodAll_cons hA
  obtain ⟨v1, vs1, d1, ds1, p1, q1, rfl, rfl, rfl, h1, r1⟩ := trodAll_cons r0
  obtain ⟨v2, vs2, d2, ds2, p2, q2, rfl, rfl, rfl, h2, r2⟩ := trodAll_cons r1
  obtain ⟨rfl, rfl, rfl⟩ := trodAll_nil r2
  obtain rfl : args = #[v0, v1, v2] := by cases args; simp_all
  obtain ⟨rfl, rfl⟩ := trodVars_none hV
  have k0 := h0
  have lt0 : ∀ x ∈ p0, x.block < W.heap.size := by obtain ⟨m, hm⟩ := k0; exact DataW.trod_lt m _ _ _ hm
  obtain ⟨z0, w0⟩ := ver_open (hval 0 24 v0 rfl rfl) h0
  obtain ⟨a1, rfl, rfl, rfl, w1⟩ := open_string Try.underlying9 (hval 1 9 v1 rfl rfl) h1
  obtain ⟨a2, rfl, rfl, rfl, w2⟩ := open_int Try.underlying5 (hval 2 5 v2 rfl rfl) h2
  clear hA0 hval0
  refine (walk _ z0 a1 a2 W w0 w1 w2).mono fun e W' ⟨he, bel⟩ => ?_
  subst he
  exact ⟨_, rfl, _, _, _, [], _, [], hW', trodAll_mk1 (shut_bool Try.underlying4 _), (trodAll_cons_mk (Below.trod laidOut (by kernel_rfl) (of_decide_eq_true (by kernel_rfl)) k0 bel lt0) (trodAll_cons_mk (shut_string Try.underlying9 w1) (trodAll_cons_mk (shut_int Try.underlying5 w2) trodAll_mk0))), rfl, bel.frame _, fun h => by cases h⟩

-- the given statement
theorem proved : Rows.VersionStepsSaid :=
  OpenClaim.holds_of_wide 7 Try.f7 rfl rfl rfl rfl rfl rfl rfl ⟨rfl, rfl, rfl, rfl, rfl⟩ rfl rfl rfl rfl rfl (by kernel_rfl) Try.func7 (by kernel_rfl)
    (of_decide_eq_true (by kernel_rfl)) (by unfold Func.isWrapper; first | (rw [if_pos (by decide +kernel)]; kernel_rfl) | (rw [if_neg (by decide +kernel)]; exact ⟨rfl, rfl⟩))
    (fun os started H enc _ => lifted os started H enc)
end Go.Proofs.Ytcdflfjbdbofcaa.versionSteps
