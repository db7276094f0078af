/- For every two versions (no longer than is looked at): the first of the three numbers that differs tells their order, whatever stands behind; no condition. -/
import Derived.Test.YtcdflfjbdbofcaaRows
import Derived.Test.YtcdflfjbdbofcaaVerR
import Derived.Test.YtcdflfjbdbofcaaVerT
import Derived.Deep.CutRange
import Derived.Deep.DeepCutAuto
import Derived.ProofKit
import Derived.OpenShut
import Derived.ShutString
import Derived.ChangeOld
namespace Go.Proofs.Ytcdflfjbdbofcaa.versionCores
open Go.ChangeShapes Go.WideShapes Go.ChangeAt Go.RowKit
open Go.ChangeMaps (open_string shut_string)
set_option linter.unusedVariables false

theorem lit3 (w : World) (x y z : List UInt8) : Strs (w.alloc (.cells #[.string (mkB x), .string (mkB y), .string (mkB z)] 9)) (.slice (some ⟨w.heap.size, 0, none⟩) 3 3) [x, y, z] :=
  strs3 (cell_new rfl rfl) (cell_new rfl rfl) (cell_new rfl rfl)
/-- What the loop keeps. -/
structure CoreSt (w0 w : World) (ga gb g2 g3 : Nat) (ap aq : Option Addr) (n m cp cq : Nat) (P Q : List (List UInt8)) : Prop where
  s1 : Strs w (.slice (some ⟨ga, 0, none⟩) 3 3) P
  s2 : Strs w (.slice (some ⟨gb, 0, none⟩) 3 3) Q
  x3 : w.cell? ⟨g2, 3, none⟩ = some (.slice ap n cp)
  y3 : w.cell? ⟨g3, 3, none⟩ = some (.slice aq m cq)
  bl : Below w0.heap.size w0 w
theorem CoreSt.drewN {w0 w : World} {ga gb g2 g3 n m cp cq : Nat} {ap aq : Option Addr} {P Q : List (List UInt8)} (k : Nat) (h : CoreSt w0 w ga gb g2 g3 ap aq n m cp cq P Q) : CoreSt w0 (w.drewN k) ga gb g2 g3 ap aq n m cp cq P Q :=
  ⟨h.s1.drewN k, h.s2.drewN k, by simpa using h.x3, by simpa using h.y3, below_step h.bl (below_q ⟨k, rfl⟩)⟩
theorem bytesLess_cb : ∀ x y : List UInt8, Op.bytesLess x y = decide (Lib.compareBytes x y = -1)
  | [], [] => by simp [Op.bytesLess, Lib.compareBytes]
  | _ :: _, [] => by simp [Op.bytesLess, Lib.compareBytes]
  | [], _ :: _ => by simp [Op.bytesLess, Lib.compareBytes]
  | a :: x, b :: y => by
    simp only [Op.bytesLess, Lib.compareBytes]
    by_cases h1 : a < b
    · simp [h1]
    · by_cases h2 : b < a
      · have h3 : (a == b) = false := by rw [beq_eq_false_iff_ne]; rintro rfl; exact h1 h2
        simp [h1, h2, h3]
      · have h3 : a = b := UInt8.le_antisymm (UInt8.not_lt.1 h2) (UInt8.not_lt.1 h1)
        subst h3
        simp [h1, bytesLess_cb x y]
theorem cmpV_of {v u : Ver} {L : Int} (h : lexI cmpN (numsL v) (numsL u) = L) (h0 : L ≠ 0) : cmpV v u = L := by
  unfold cmpV
  subst h
  rw [if_pos h0]
theorem lexI_ne {c : List UInt8 → List UInt8 → Int} {x y : List UInt8} {xs ys : List (List UInt8)} (h : c x y ≠ 0) : lexI c (x :: xs) (y :: ys) = c x y := by
  show (if c x y ≠ 0 then c x y else lexI c xs ys) = _
  rw [if_pos h]
theorem lexI_same {c : List UInt8 → List UInt8 → Int} {x y : List UInt8} {xs ys : List (List UInt8)} (h : c x y = 0) : lexI c (x :: xs) (y :: ys) = lexI c xs ys := by
  show (if c x y ≠ 0 then c x y else lexI c xs ys) = _
  rw [if_neg (by rw [h]; simp)]
theorem cores_lex {p1 p2 p3 q1 q2 q3 : List UInt8} {pre pre' : List (List UInt8)} {T : Int} (hT : cmpV (p1, p2, p3, pre) (q1, q2, q3, pre') = T) (k : Nat) (hk : k < 3) (hp : ∀ j, j < k → ([p1, p2, p3] : List (List UInt8)).getD j [] = ([q1, q2, q3] : List (List UInt8)).getD j []) :
    ¬ ([p1, p2, p3] : List (List UInt8)).getD k [] = ([q1, q2, q3] : List (List UInt8)).getD k [] → T = cmpN (([p1, p2, p3] : List (List UInt8)).getD k []) (([q1, q2, q3] : List (List UInt8)).getD k []) := by
  intro hne
  have z := fun (a b : List UInt8) (h : ¬ a = b) => (fun e => h ((ord_N.zero a b).1 e) : cmpN a b ≠ 0)
  have s := fun (a : List UInt8) => ord_N.self a
  rw [← hT]
  have hk3 : k = 0 ∨ k = 1 ∨ k = 2 := by omega
  rcases hk3 with rfl | rfl | rfl
  · have h0 := z p1 q1 hne
    exact cmpV_of (show lexI cmpN [p1, p2, p3] [q1, q2, q3] = cmpN p1 q1 from lexI_ne h0) h0
  · have e0 : p1 = q1 := hp 0 (by omega)
    have h0 := z p2 q2 hne
    exact cmpV_of (show lexI cmpN [p1, p2, p3] [q1, q2, q3] = cmpN p2 q2 by rw [lexI_same (by rw [e0]; exact s q1), lexI_ne h0]) h0
  · have e0 : p1 = q1 := hp 0 (by omega)
    have e1 : p2 = q2 := hp 1 (by omega)
    have h0 := z p3 q3 hne
    exact cmpV_of (show lexI cmpN [p1, p2, p3] [q1, q2, q3] = cmpN p3 q3 by rw [lexI_same (by rw [e0]; exact s q1), lexI_same (by rw [e1]; exact s q2), lexI_ne h0]) h0
theorem cores_eq {p1 p2 p3 q1 q2 q3 : List UInt8} {pre pre' : List (List UInt8)} {T : Int} (hT : cmpV (p1, p2, p3, pre) (q1, q2, q3, pre') = T) (hp : ∀ j, j < 3 → ([p1, p2, p3] : List (List UInt8)).getD j [] = ([q1, q2, q3] : List (List UInt8)).getD j []) : T = preC pre pre' := by
  have e0 : p1 = q1 := hp 0 (by omega)
  have e1 : p2 = q2 := hp 1 (by omega)
  have e2 : p3 = q3 := hp 2 (by omega)
  subst e0 e1 e2
  rw [← hT]
  exact cmpV_eq rfl
set_option maxRecDepth 100000 in
set_option maxHeartbeats 6400000 in
theorem walk (V : Value) (v : Ver) (U : Value) (u : Ver) (w : World) (hv : VerIn w V v ∧ fitsV v) (hu : VerIn w U u ∧ fitsV u) :
    Calls Try.prog 8 #[V, U] w fun e w' => e = .returned (.bool true) ∧ Below w.heap.size w w' := by
  obtain ⟨hV1, hfit1⟩ := hv
  obtain ⟨p, hp⟩ : ∃ p, fewV v = p := ⟨_, rfl⟩
  have SMP : Hid (smallV 400 p) := Lib.hid (by rw [← hp]; exact fewV_small v)
  have HF1 := Lib.hid hfit1; have HU1 := Lib.hid hp
  obtain ⟨a10, c10, rfl, hst1⟩ := hV1.ex
  have HST1 := Lib.hid hst1
  clear hV1 hfit1 hp hst1
  obtain ⟨hV2, hfit2⟩ := hu
  obtain ⟨q, hq⟩ : ∃ q, fewV u = q := ⟨_, rfl⟩
  have SMQ : Hid (smallV 400 q) := Lib.hid (by rw [← hq]; exact fewV_small u)
  have HF2 := Lib.hid hfit2; have HU2 := Lib.hid hq
  obtain ⟨a20, c20, rfl, hst2⟩ := hV2.ex
  have HST2 := Lib.hid hst2
  clear hV2 hfit2 hq hst2
  go_enter Try.func8, Try.ntmps8
  go_upto_region 1 with fail
  obtain ⟨wA, hwA⟩ : ∃ wA, wA = (w.alloc (.cells #[.string (mkB v.1), .string (mkB v.2.1), .string (mkB v.2.2.1), .slice a10 v.2.2.2.length c10] 24)).alloc (.cells #[.string (mkB u.1), .string (mkB u.2.1), .string (mkB u.2.2.1), .slice a20 u.2.2.2.length c20] 24) := ⟨_, rfl⟩
  rw [← hwA]
  have vs1 : VSlot wA w.heap.size v a10 c10 := by rw [hwA]; exact (VSlot.new HST1.out).alloc _
  have vs2 : VSlot wA (w.heap.size + 1) u a20 c20 := by
    rw [hwA]
    have h := VSlot.new (w := w.alloc (.cells #[.string (mkB v.1), .string (mkB v.2.1), .string (mkB v.2.2.1), .slice a10 v.2.2.2.length c10] 24)) (HST2.out.below ((Below.refl _ _).alloc (Nat.le_refl _) _))
    simpa using h
  have bA : Below w.heap.size w wA := by rw [hwA]; exact ((Below.refl _ _).alloc (Nat.le_refl _) _).alloc (by simp) _
  obtain ⟨g2, hg2⟩ : ∃ g, g = w.heap.size := ⟨_, rfl⟩
  obtain ⟨g3, hg3⟩ : ∃ g, g = w.heap.size + 1 := ⟨_, rfl⟩
  rw [← hg3] at vs2 ⊢
  rw [← hg2] at vs1 ⊢
  have V1 := Lib.hid vs1; have V2 := Lib.hid vs2; have BA := Lib.hid bA
  have HG2 : Hid (w.heap.size ≤ g2) := Lib.hid (by omega)
  have HG3 : Hid (w.heap.size ≤ g3) := Lib.hid (by omega)
  have hn1 : g2 ≠ g3 := by omega
  have hn2 : g3 ≠ g2 := by omega
  have HLT : Hid (g2 < wA.heap.size ∧ g3 < wA.heap.size) := Lib.hid ⟨vs1.lt, vs2.lt⟩
  clear hwA vs1 vs2 bA hg2 hg3
  obtain ⟨c0, c1, c2, c3, f0, f1, f2, f3⟩ := row4 V1.out.row
  obtain ⟨d0, d1, d2, d3, e0, e1, e2, e3⟩ := row4 V2.out.row
  go_cut [4] (fun s4 wx => s4 = .bool false ∧ ∃ a2 c2 a3 c3, VSlot wx g2 p a2 c2 ∧ VSlot wx g3 q a3 c3 ∧ Below w.heap.size w wx)
  case first =>
    go_region_with (first
      | (go_at_call_of 11 (Value.agg #[.string (mkB v.1), .string (mkB v.2.1), .string (mkB v.2.2.1), .slice a10 v.2.2.2.length c10]); refine (fewv_any _ v _ (V1.out.drewN 1).verin HF1.out).mono ?_; rintro e w1 ⟨a1, c1', rfl, hst1, hfr1, hb1⟩; rw [HU1.out] at hst1 ⊢; have ST1 := Lib.hid hst1; have FR1 : Hid (∀ ad, a1 = some ad → ad.block ≠ g2 ∧ ad.block ≠ g3) := Lib.hid (fun ad ha => by have h1 := hfr1 ad ha; have h2 := HLT.out; have h3 : wA.drew.heap.size = wA.heap.size := rfl; have h4 : (wA.drewN 1).heap.size = wA.heap.size := rfl; omega); have V1b := Lib.hid ((V1.out.drewN 1).below hb1); have V2b := Lib.hid ((V2.out.drewN 1).below hb1); have B1 := Lib.hid (below_step (below_step BA.out (below_q ⟨1, rfl⟩)) hb1); clear hst1 hfr1 hb1; obtain ⟨d0, d1, d2, d3, e0, e1, e2, e3⟩ := row4 V2b.out.row)
      | (go_at_call_of 11 (Value.agg #[.string (mkB u.1), .string (mkB u.2.1), .string (mkB u.2.2.1), .slice a20 u.2.2.2.length c20]); refine (fewv_any _ u _ V2b.out.verin HF2.out).mono ?_; rintro e w2 ⟨a2, c2', rfl, hst2, hfr2, hb2⟩; rw [HU2.out] at hst2 ⊢; have ST2 := Lib.hid hst2; have FR2 : Hid (∀ ad, a2 = some ad → ad.block ≠ g2 ∧ ad.block ≠ g3) := Lib.hid (fun ad ha => by have h1 := hfr2 ad ha; have h2 := V1b.out.lt; have h3 := V2b.out.lt; omega); have ST1b := Lib.hid (ST1.out.below hb2); have V1c := Lib.hid (V1b.out.below hb2); have V2c := Lib.hid (V2b.out.below hb2); have B2 := Lib.hid (below_step B1.out hb2); clear hst2 hfr2 hb2; obtain ⟨d0, d1, d2, d3, e0, e1, e2, e3⟩ := row4 V2c.out.row; obtain ⟨k0, k1, k2, k3, l0, l1, l2, l3⟩ := row4 V1c.out.row))
    all_goals
      go_wp2_with fail
      go_meet
      have F1a : ∀ ad, a1 = some ad → ad.block ≠ g2 := fun ad ha => (FR1.out ad ha).1
      have F1b : ∀ ad, a1 = some ad → ad.block ≠ g3 := fun ad ha => (FR1.out ad ha).2
      have F2a : ∀ ad, a2 = some ad → ad.block ≠ g2 := fun ad ha => (FR2.out ad ha).1
      have F2b : ∀ ad, a2 = some ad → ad.block ≠ g3 := fun ad ha => (FR2.out ad ha).2
      refine ⟨rfl, a1, c1', a2, c2', ⟨row_far (row_far (row_far (row_far (row4_set V1c.out.row _ _ _ _) hn1 _) hn1 _) hn1 _) hn1 _, (((((((ST1b.out.far F1a).far F1a).far F1a).far F1a).far F1b).far F1b).far F1b).far F1b⟩,
        ⟨row4_set (row_far (row_far (row_far (row_far V2c.out.row hn2 _) hn2 _) hn2 _) hn2 _) _ _ _ _, (((((((ST2.out.far F2a).far F2a).far F2a).far F2a).far F2b).far F2b).far F2b).far F2b⟩, ?_⟩
      exact (((((((B2.out.setCell HG2.out _).setCell HG2.out _).setCell HG2.out _).setCell HG2.out _).setCell HG3.out _).setCell HG3.out _).setCell HG3.out _).setCell HG3.out _
  case rest =>
    obtain ⟨rfl, ap, cp, aq, cq, hvp, hvq, hbx⟩ := hcut
    have VP := Lib.hid hvp; have VQ := Lib.hid hvq; have BX := Lib.hid hbx
    clear hvp hvq hbx c0 c1 c2 c3 f0 f1 f2 f3 d0 d1 d2 d3 e0 e1 e2 e3 V1 V2 BA HLT HST1 HST2
    obtain ⟨f, hf⟩ : ∃ f, fitL p = f := ⟨_, rfl⟩
    obtain ⟨f2, hf2⟩ : ∃ f, fitL q = f := ⟨_, rfl⟩
    cases f
    · cases f2
      · have hjp : joinE p = ([], 1) := by rw [joinE_of hf, if_neg (by simp)]
        have hjq : joinE q = ([], 1) := by rw [joinE_of hf2, if_neg (by simp)]
        have SJP : Hid ((mkB []).size ≤ 1000000000) := Lib.hid (by rw [mkB_size]; simp)
        have SJQ : Hid ((mkB []).size ≤ 1000000000) := Lib.hid (by rw [mkB_size]; simp)
        obtain ⟨C1, C2, hc⟩ : ∃ c1 c2, vcmpE [] [] = (c1, c2) := ⟨_, _, rfl⟩
        have JP := Lib.hid hjp; have JQ := Lib.hid hjq; have HC := Lib.hid hc; have HF := Lib.hid hf; have HF' := Lib.hid hf2
        clear hjp hjq hc hf hf2
        obtain ⟨x0, x1, x2, x3, _, _, _, _⟩ := row4 VP.out.row
        obtain ⟨y0, y1, y2, y3, _, _, _, _⟩ := row4 VQ.out.row
        go_upto_region 3 with (go_at_call 14; refine (join_any2 _ p _ VP.out.verin (small_mono SMP.out (by omega)) (Nat.le_trans (joinL_len (small_mono SMP.out (by omega))) (by omega))).mono ?_; rintro e w3 ⟨rfl, hb3⟩; rw [JP.out]; have VPb := Lib.hid (VP.out.below hb3); have VQb := Lib.hid (VQ.out.below hb3); have Bb := Lib.hid (below_step BX.out hb3); clear hb3)
        clear x0 x1 x2 x3 y0 y1 y2 y3 VP VQ BX
        obtain ⟨x0, x1, x2, x3, _, _, _, _⟩ := row4 VPb.out.row
        obtain ⟨y0, y1, y2, y3, _, _, _, _⟩ := row4 VQb.out.row
        go_upto_region 4 with (go_at_call 14; refine (join_any2 _ q _ VQb.out.verin (small_mono SMQ.out (by omega)) (Nat.le_trans (joinL_len (small_mono SMQ.out (by omega))) (by omega))).mono ?_; rintro e w4 ⟨rfl, hb4⟩; rw [JQ.out]; have VPc := Lib.hid (VPb.out.below hb4); have VQc := Lib.hid (VQb.out.below hb4); have Bc := Lib.hid (below_step Bb.out hb4); clear hb4)
        clear x0 x1 x2 x3 y0 y1 y2 y3 VPb VQb Bb
        go_upto_region 5 with (go_at_call 19; refine (vcmp_any _ _ _ SJP.out SJQ.out).mono ?_; rintro e w5 ⟨rfl, hb5⟩; simp only [mkB_list]; rw [HC.out]; have VPd := Lib.hid (VPc.out.below hb5); have VQd := Lib.hid (VQc.out.below hb5); have Bd := Lib.hid (below_step Bc.out hb5); clear hb5)
        clear VPc VQc Bc
        go_wp2_with (go_at_call 18; refine (awake3_any _).mono ?_; rintro e w9 ⟨rfl, hb9⟩; have B9 := Lib.hid (below_step Bd.out hb9); clear hb9)
        go_ret
        exact ⟨rfl, B9.out⟩
      · have hjp : joinE p = ([], 1) := by rw [joinE_of hf, if_neg (by simp)]
        have hjq : joinE q = (joinL q, 0) := by rw [joinE_of hf2, if_pos rfl]
        have SJP : Hid ((mkB []).size ≤ 1000000000) := Lib.hid (by rw [mkB_size]; simp)
        have SJQ : Hid ((mkB (joinL q)).size ≤ 1000000000) := Lib.hid (by rw [mkB_size]; have := joinL_len (small_mono SMQ.out (by omega)); omega)
        obtain ⟨C1, C2, hc⟩ : ∃ c1 c2, vcmpE [] (joinL q) = (c1, c2) := ⟨_, _, rfl⟩
        have JP := Lib.hid hjp; have JQ := Lib.hid hjq; have HC := Lib.hid hc; have HF := Lib.hid hf; have HF' := Lib.hid hf2
        clear hjp hjq hc hf hf2
        obtain ⟨x0, x1, x2, x3, _, _, _, _⟩ := row4 VP.out.row
        obtain ⟨y0, y1, y2, y3, _, _, _, _⟩ := row4 VQ.out.row
        go_upto_region 3 with (go_at_call 14; refine (join_any2 _ p _ VP.out.verin (small_mono SMP.out (by omega)) (Nat.le_trans (joinL_len (small_mono SMP.out (by omega))) (by omega))).mono ?_; rintro e w3 ⟨rfl, hb3⟩; rw [JP.out]; have VPb := Lib.hid (VP.out.below hb3); have VQb := Lib.hid (VQ.out.below hb3); have Bb := Lib.hid (below_step BX.out hb3); clear hb3)
        clear x0 x1 x2 x3 y0 y1 y2 y3 VP VQ BX
        obtain ⟨x0, x1, x2, x3, _, _, _, _⟩ := row4 VPb.out.row
        obtain ⟨y0, y1, y2, y3, _, _, _, _⟩ := row4 VQb.out.row
        go_upto_region 4 with (go_at_call 14; refine (join_any2 _ q _ VQb.out.verin (small_mono SMQ.out (by omega)) (Nat.le_trans (joinL_len (small_mono SMQ.out (by omega))) (by omega))).mono ?_; rintro e w4 ⟨rfl, hb4⟩; rw [JQ.out]; have VPc := Lib.hid (VPb.out.below hb4); have VQc := Lib.hid (VQb.out.below hb4); have Bc := Lib.hid (below_step Bb.out hb4); clear hb4)
        clear x0 x1 x2 x3 y0 y1 y2 y3 VPb VQb Bb
        go_upto_region 5 with (go_at_call 19; refine (vcmp_any _ _ _ SJP.out SJQ.out).mono ?_; rintro e w5 ⟨rfl, hb5⟩; simp only [mkB_list]; rw [HC.out]; have VPd := Lib.hid (VPc.out.below hb5); have VQd := Lib.hid (VQc.out.below hb5); have Bd := Lib.hid (below_step Bc.out hb5); clear hb5)
        clear VPc VQc Bc
        go_wp2_with (go_at_call 18; refine (awake3_any _).mono ?_; rintro e w9 ⟨rfl, hb9⟩; have B9 := Lib.hid (below_step Bd.out hb9); clear hb9)
        go_ret
        exact ⟨rfl, B9.out⟩
    · cases f2
      · have hjp : joinE p = (joinL p, 0) := by rw [joinE_of hf, if_pos rfl]
        have hjq : joinE q = ([], 1) := by rw [joinE_of hf2, if_neg (by simp)]
        have SJP : Hid ((mkB (joinL p)).size ≤ 1000000000) := Lib.hid (by rw [mkB_size]; have := joinL_len (small_mono SMP.out (by omega)); omega)
        have SJQ : Hid ((mkB []).size ≤ 1000000000) := Lib.hid (by rw [mkB_size]; simp)
        obtain ⟨C1, C2, hc⟩ : ∃ c1 c2, vcmpE (joinL p) [] = (c1, c2) := ⟨_, _, rfl⟩
        have JP := Lib.hid hjp; have JQ := Lib.hid hjq; have HC := Lib.hid hc; have HF := Lib.hid hf; have HF' := Lib.hid hf2
        clear hjp hjq hc hf hf2
        obtain ⟨x0, x1, x2, x3, _, _, _, _⟩ := row4 VP.out.row
        obtain ⟨y0, y1, y2, y3, _, _, _, _⟩ := row4 VQ.out.row
        go_upto_region 3 with (go_at_call 14; refine (join_any2 _ p _ VP.out.verin (small_mono SMP.out (by omega)) (Nat.le_trans (joinL_len (small_mono SMP.out (by omega))) (by omega))).mono ?_; rintro e w3 ⟨rfl, hb3⟩; rw [JP.out]; have VPb := Lib.hid (VP.out.below hb3); have VQb := Lib.hid (VQ.out.below hb3); have Bb := Lib.hid (below_step BX.out hb3); clear hb3)
        clear x0 x1 x2 x3 y0 y1 y2 y3 VP VQ BX
        obtain ⟨x0, x1, x2, x3, _, _, _, _⟩ := row4 VPb.out.row
        obtain ⟨y0, y1, y2, y3, _, _, _, _⟩ := row4 VQb.out.row
        go_upto_region 4 with (go_at_call 14; refine (join_any2 _ q _ VQb.out.verin (small_mono SMQ.out (by omega)) (Nat.le_trans (joinL_len (small_mono SMQ.out (by omega))) (by omega))).mono ?_; rintro e w4 ⟨rfl, hb4⟩; rw [JQ.out]; have VPc := Lib.hid (VPb.out.below hb4); have VQc := Lib.hid (VQb.out.below hb4); have Bc := Lib.hid (below_step Bb.out hb4); clear hb4)
        clear x0 x1 x2 x3 y0 y1 y2 y3 VPb VQb Bb
        go_upto_region 5 with (go_at_call 19; refine (vcmp_any _ _ _ SJP.out SJQ.out).mono ?_; rintro e w5 ⟨rfl, hb5⟩; simp only [mkB_list]; rw [HC.out]; have VPd := Lib.hid (VPc.out.below hb5); have VQd := Lib.hid (VQc.out.below hb5); have Bd := Lib.hid (below_step Bc.out hb5); clear hb5)
        clear VPc VQc Bc
        go_wp2_with (go_at_call 18; refine (awake3_any _).mono ?_; rintro e w9 ⟨rfl, hb9⟩; have B9 := Lib.hid (below_step Bd.out hb9); clear hb9)
        go_ret
        exact ⟨rfl, B9.out⟩
      · have hjp : joinE p = (joinL p, 0) := by rw [joinE_of hf, if_pos rfl]
        have hjq : joinE q = (joinL q, 0) := by rw [joinE_of hf2, if_pos rfl]
        have SJP : Hid ((mkB (joinL p)).size ≤ 1000000000) := Lib.hid (by rw [mkB_size]; have := joinL_len (small_mono SMP.out (by omega)); omega)
        have SJQ : Hid ((mkB (joinL q)).size ≤ 1000000000) := Lib.hid (by rw [mkB_size]; have := joinL_len (small_mono SMQ.out (by omega)); omega)
        have hc : vcmpE (joinL p) (joinL q) = (cmpV p q, 0) := by
          rw [vcmpE_of (ok_join hf).1 (ok_join hf2).1, if_pos ⟨rfl, rfl⟩]; unfold cmpT; rw [(ok_join hf).2, (ok_join hf2).2]
        obtain ⟨T, hT⟩ : ∃ T, cmpV p q = T := ⟨_, rfl⟩
        have vT := ord_V.vals p q
        rw [hT] at hc vT
        have HT := Lib.hid hT; have VT := Lib.hid vT; clear hT vT
        have JP := Lib.hid hjp; have JQ := Lib.hid hjq; have HC := Lib.hid hc; have HF := Lib.hid hf; have HF' := Lib.hid hf2
        clear hjp hjq hc hf hf2
        obtain ⟨x0, x1, x2, x3, _, _, _, _⟩ := row4 VP.out.row
        obtain ⟨y0, y1, y2, y3, _, _, _, _⟩ := row4 VQ.out.row
        go_upto_region 3 with (go_at_call 14; refine (join_any2 _ p _ VP.out.verin (small_mono SMP.out (by omega)) (Nat.le_trans (joinL_len (small_mono SMP.out (by omega))) (by omega))).mono ?_; rintro e w3 ⟨rfl, hb3⟩; rw [JP.out]; have VPb := Lib.hid (VP.out.below hb3); have VQb := Lib.hid (VQ.out.below hb3); have Bb := Lib.hid (below_step BX.out hb3); clear hb3)
        clear x0 x1 x2 x3 y0 y1 y2 y3 VP VQ BX
        obtain ⟨x0, x1, x2, x3, _, _, _, _⟩ := row4 VPb.out.row
        obtain ⟨y0, y1, y2, y3, _, _, _, _⟩ := row4 VQb.out.row
        go_upto_region 4 with (go_at_call 14; refine (join_any2 _ q _ VQb.out.verin (small_mono SMQ.out (by omega)) (Nat.le_trans (joinL_len (small_mono SMQ.out (by omega))) (by omega))).mono ?_; rintro e w4 ⟨rfl, hb4⟩; rw [JQ.out]; have VPc := Lib.hid (VPb.out.below hb4); have VQc := Lib.hid (VQb.out.below hb4); have Bc := Lib.hid (below_step Bb.out hb4); clear hb4)
        clear x0 x1 x2 x3 y0 y1 y2 y3 VPb VQb Bb
        go_upto_region 5 with (go_at_call 19; refine (vcmp_any _ _ _ SJP.out SJQ.out).mono ?_; rintro e w5 ⟨rfl, hb5⟩; simp only [mkB_list]; rw [HC.out]; have VPd := Lib.hid (VPc.out.below hb5); have VQd := Lib.hid (VQc.out.below hb5); have Bd := Lib.hid (below_step Bc.out hb5); clear hb5)
        clear VPc VQc Bc
        obtain ⟨p1, p2, p3, pre⟩ := p
        obtain ⟨q1, q2, q3, pre'⟩ := q
        obtain ⟨n, hn⟩ : ∃ n, pre.length = n := ⟨_, rfl⟩
        obtain ⟨m, hm⟩ : ∃ m, pre'.length = m := ⟨_, rfl⟩
        have HN := Lib.hid hn; have HM := Lib.hid hm
        obtain ⟨x0, x1, x2, x3, _, _, _, _⟩ := row4 VPd.out.row
        obtain ⟨y0, y1, y2, y3, _, _, _, _⟩ := row4 VQd.out.row
        simp only at x0 x1 x2 x3 y0 y1 y2 y3
        rw [hn] at x3; rw [hm] at y3
        clear hn hm VPd VQd
        have x0' := fun o => cell_alloc x0 o; have x1' := fun o => cell_alloc x1 o; have x2' := fun o => cell_alloc x2 o; have y0' := fun o => cell_alloc y0 o; have y1' := fun o => cell_alloc y1 o; have y2' := fun o => cell_alloc y2 o
        have X3 := Lib.hid x3; have Y3 := Lib.hid y3; clear x3 y3
        go_upto_region 7 with fail
        go_cut [11, 12] (fun s11 s12 wx => ∃ ga gb, s11 = .slice (some ⟨ga, 0, none⟩) 3 3 ∧ s12 = .slice (some ⟨gb, 0, none⟩) 3 3 ∧ Strs wx (.slice (some ⟨ga, 0, none⟩) 3 3) [p1, p2, p3] ∧ Strs wx (.slice (some ⟨gb, 0, none⟩) 3 3) [q1, q2, q3] ∧ wx.cell? ⟨g2, 3, none⟩ = some (.slice ap n cp) ∧ wx.cell? ⟨g3, 3, none⟩ = some (.slice aq m cq) ∧ Below w.heap.size w wx)
        case first =>
          go_region
          · go_wp2_with fail
            go_meet
            exact ⟨_, _, rfl, rfl, strs_drew ((lit3 _ p1 p2 p3).below ((Below.refl _ _).alloc (Nat.le_refl _) _)), strs_drew (by have h := lit3 (w5.alloc (.cells #[.string (mkB p1), .string (mkB p2), .string (mkB p3)] 9)) q1 q2 q3; simpa using h),
              cell_alloc (cell_alloc X3.out _) _, cell_alloc (cell_alloc Y3.out _) _, below_step ((Bd.out.alloc Bd.out.size _).alloc (by have := Bd.out.size; simp; omega) _) (below_q ⟨1, rfl⟩)⟩
          · go_wp2_with fail
            go_meet
            exact ⟨_, _, rfl, rfl, strs_drew (by have h := lit3 (w5.alloc (.cells #[.string (mkB q1), .string (mkB q2), .string (mkB q3)] 9)) p1 p2 p3; simpa using h), strs_drew ((lit3 _ q1 q2 q3).below ((Below.refl _ _).alloc (Nat.le_refl _) _)),
              cell_alloc (cell_alloc X3.out _) _, cell_alloc (cell_alloc Y3.out _) _, below_step ((Bd.out.alloc Bd.out.size _).alloc (by have := Bd.out.size; simp; omega) _) (below_q ⟨1, rfl⟩)⟩
        case rest =>
          obtain ⟨ga, gb, rfl, rfl, hsa, hsb, hx3, hy3, hbc⟩ := hcut
          have ST0 : Hid (CoreSt w wc ga gb g2 g3 ap aq n m cp cq [p1, p2, p3] [q1, q2, q3]) := Lib.hid ⟨hsa, hsb, hx3, hy3, hbc⟩
          clear hsa hsb hx3 hy3 hbc x0 x1 x2 y0 y1 y2 x0' x1' x2' y0' y1' y2' X3 Y3 Bd
          go_wp2
          go_loopw [13] (fun i wr => ∃ k : Nat, k ≤ 3 ∧ i = .int .i64 k ∧ Hid (∀ j, j < k → ([p1, p2, p3] : List (List UInt8)).getD j [] = ([q1, q2, q3] : List (List UInt8)).getD j []) ∧ Hid (CoreSt w wr ga gb g2 g3 ap aq n m cp cq [p1, p2, p3] [q1, q2, q3])) (fun i _ => 3 - (intOf i).toNat)
          case atStart => exact ⟨0, by omega, rfl, Lib.hid (fun j hj => by omega), ST0⟩
          case round =>
            obtain ⟨k, hk, rfl, HPRE, ST⟩ := hrel
            by_cases hlt : k < 3
            · obtain ⟨ba, oa, hpa, _, hc1⟩ := strs_at ST.out.s1 k hlt
              obtain ⟨bb, ob, hpb, _, hc2⟩ := strs_at ST.out.s2 k hlt
              injection hpa with hpa; injection hpa with hpa hoa; subst hpa hoa
              injection hpb with hpb; injection hpb with hpb hob; subst hpb hob
              have hlex := cores_lex HT.out k hlt HPRE.out
              obtain ⟨x, hx⟩ : ∃ x, ([p1, p2, p3] : List (List UInt8)).getD k [] = x := ⟨_, rfl⟩
              obtain ⟨y, hy⟩ : ∃ y, ([q1, q2, q3] : List (List UInt8)).getD k [] = y := ⟨_, rfl⟩
              rw [hx] at hc1 hlex; rw [hy] at hc2 hlex
              rw [Nat.zero_add] at hc1 hc2
              have HXY := Lib.hid (And.intro hx hy)
              have heq := mk_beq x y
              obtain ⟨X, hX⟩ : ∃ X, mkB x = X := ⟨_, rfl⟩
              obtain ⟨Y, hY⟩ : ∃ Y, mkB y = Y := ⟨_, rfl⟩
              have sx : X.size = x.length := by rw [← hX, mkB_size]
              have sy : Y.size = y.length := by rw [← hY, mkB_size]
              rw [hX] at hc1 heq; rw [hY] at hc2 heq
              have HLEX := Lib.hid hlex; have SX := Lib.hid sx; have SY := Lib.hid sy; have HX := Lib.hid hX; have HY := Lib.hid hY
              clear hlex sx sy hX hY hx hy
              have j1 : (0 : Int) ≤ (k : Int) := by omega
              have j2 : (k : Int) < 3 := by omega
              by_cases hne : x = y
              · have he : (X.toList == Y.toList) = true := by rw [heq]; exact decide_eq_true hne
                have HNE := Lib.hid hne
                clear heq hne
                go_wp2
                go_quiet (fail)
                go_wp2
                go_roundw
                case rel => exact ⟨k + 1, by omega, by go_num, Lib.hid (fun j hj => by
                    rcases Nat.lt_or_ge j k with h | h
                    · exact HPRE.out j h
                    · have : j = k := by omega
                      subst this
                      rw [HXY.out.1, HXY.out.2, HNE.out]), Lib.hid (ST.out.drewN _)⟩
                case measure => simp [intOf]; omega
              · have he : (X.toList == Y.toList) = false := by rw [heq]; exact decide_eq_false hne
                have hT2 := HLEX.out hne
                have HNE := Lib.hid hne
                clear heq hne
                by_cases l1 : X.size < Y.size
                · have l1d : decide (X.size < Y.size) = true := decide_eq_true l1
                  have hTv : T = -1 := by rw [hT2]; unfold cmpN; rw [if_pos (by rw [← SX.out, ← SY.out]; exact l1)]
                  subst hTv
                  clear hT2 HT VT HC
                  go_wp2_with (go_at_call 18; refine (awake3_any _).mono ?_; rintro e w9 ⟨rfl, hb9⟩; have B9 := Lib.hid (below_step (by first | exact ST.out.bl | exact (ST.out.drewN _).bl | exact ((ST.out.drewN _).drewN _).bl | exact (((ST.out.drewN _).drewN _).drewN _).bl | exact ((((ST.out.drewN _).drewN _).drewN _).drewN _).bl) hb9); clear hb9)
                  repeat (go_quiet (fail); try go_wp2_with (go_at_call 18; refine (awake3_any _).mono ?_; rintro e w9 ⟨rfl, hb9⟩; have B9 := Lib.hid (below_step (by first | exact ST.out.bl | exact (ST.out.drewN _).bl | exact ((ST.out.drewN _).drewN _).bl | exact (((ST.out.drewN _).drewN _).drewN _).bl | exact ((((ST.out.drewN _).drewN _).drewN _).drewN _).bl) hb9); clear hb9))
                  go_ret
                  exact ⟨rfl, B9.out⟩
                · have l1d : decide (X.size < Y.size) = false := decide_eq_false l1
                  by_cases l2 : X.size = Y.size
                  · have l2d : ((X.size : Int) == (Y.size : Int)) = true := by rw [l2]; simp
                    have hTv : T = Lib.compareBytes x y := by rw [hT2]; unfold cmpN; rw [if_neg (by rw [← SX.out, ← SY.out]; omega), if_neg (by rw [← SX.out, ← SY.out]; omega)]
                    clear hT2
                    have hbl : Op.bytesLess X.toList Y.toList = decide (Lib.compareBytes x y = -1) := by rw [← HX.out, ← HY.out, Lib.toList_data, Lib.toList_data, mkB_list, mkB_list]; exact bytesLess_cb x y
                    have hv3 : Lib.compareBytes x y = -1 ∨ Lib.compareBytes x y = 1 := by
                      rcases cb_vals x y with h | h | h
                      · exact .inl h
                      · exact absurd ((cb_eq x y).1 h) HNE.out
                      · exact .inr h
                    rcases hv3 with h3 | h3
                    all_goals
                      rw [h3] at hbl hTv
                      subst hTv
                      clear HT VT HC
                    · replace hbl : Op.bytesLess X.toList Y.toList = true := by rw [hbl]; rfl
                      go_wp2_with (go_at_call 18; refine (awake3_any _).mono ?_; rintro e w9 ⟨rfl, hb9⟩; have B9 := Lib.hid (below_step (by first | exact ST.out.bl | exact (ST.out.drewN _).bl | exact ((ST.out.drewN _).drewN _).bl | exact (((ST.out.drewN _).drewN _).drewN _).bl | exact ((((ST.out.drewN _).drewN _).drewN _).drewN _).bl) hb9); clear hb9)
                      repeat (go_quiet (fail); try go_wp2_with (go_at_call 18; refine (awake3_any _).mono ?_; rintro e w9 ⟨rfl, hb9⟩; have B9 := Lib.hid (below_step (by first | exact ST.out.bl | exact (ST.out.drewN _).bl | exact ((ST.out.drewN _).drewN _).bl | exact (((ST.out.drewN _).drewN _).drewN _).bl | exact ((((ST.out.drewN _).drewN _).drewN _).drewN _).bl) hb9); clear hb9))
                      go_ret
                      exact ⟨rfl, B9.out⟩
                    · replace hbl : Op.bytesLess X.toList Y.toList = false := by rw [hbl]; rfl
                      go_wp2_with (go_at_call 18; refine (awake3_any _).mono ?_; rintro e w9 ⟨rfl, hb9⟩; have B9 := Lib.hid (below_step (by first | exact ST.out.bl | exact (ST.out.drewN _).bl | exact ((ST.out.drewN _).drewN _).bl | exact (((ST.out.drewN _).drewN _).drewN _).bl | exact ((((ST.out.drewN _).drewN _).drewN _).drewN _).bl) hb9); clear hb9)
                      repeat (go_quiet (fail); try go_wp2_with (go_at_call 18; refine (awake3_any _).mono ?_; rintro e w9 ⟨rfl, hb9⟩; have B9 := Lib.hid (below_step (by first | exact ST.out.bl | exact (ST.out.drewN _).bl | exact ((ST.out.drewN _).drewN _).bl | exact (((ST.out.drewN _).drewN _).drewN _).bl | exact ((((ST.out.drewN _).drewN _).drewN _).drewN _).bl) hb9); clear hb9))
                      go_ret
                      exact ⟨rfl, B9.out⟩
                  · have l2d : ((X.size : Int) == (Y.size : Int)) = false := by rw [beq_eq_false_iff_ne]; omega
                    have hTv : T = 1 := by rw [hT2]; unfold cmpN; rw [if_neg (by rw [← SX.out, ← SY.out]; omega), if_pos (by rw [← SX.out, ← SY.out]; omega)]
                    subst hTv
                    clear hT2 HT VT HC
                    go_wp2_with (go_at_call 18; refine (awake3_any _).mono ?_; rintro e w9 ⟨rfl, hb9⟩; have B9 := Lib.hid (below_step (by first | exact ST.out.bl | exact (ST.out.drewN _).bl | exact ((ST.out.drewN _).drewN _).bl | exact (((ST.out.drewN _).drewN _).drewN _).bl | exact ((((ST.out.drewN _).drewN _).drewN _).drewN _).bl) hb9); clear hb9)
                    repeat (go_quiet (fail); try go_wp2_with (go_at_call 18; refine (awake3_any _).mono ?_; rintro e w9 ⟨rfl, hb9⟩; have B9 := Lib.hid (below_step (by first | exact ST.out.bl | exact (ST.out.drewN _).bl | exact ((ST.out.drewN _).drewN _).bl | exact (((ST.out.drewN _).drewN _).drewN _).bl | exact ((((ST.out.drewN _).drewN _).drewN _).drewN _).bl) hb9); clear hb9))
                    go_ret
                    exact ⟨rfl, B9.out⟩
            · have hk3 : k = 3 := by omega
              have j3 : ¬ ((k : Int) < 3) := by omega
              have hTP := cores_eq HT.out (fun j hj => HPRE.out j (by omega))
              have z1 := ST.out.x3
              have z2 := ST.out.y3
              have en : pre = [] ↔ n = 0 := by rw [← HN.out]; exact List.length_eq_zero_iff.symm
              have em : pre' = [] ↔ m = 0 := by rw [← HM.out]; exact List.length_eq_zero_iff.symm
              unfold preC at hTP
              by_cases e1 : n = 0
              · have d1 : decide (0 < n) = false := decide_eq_false (by omega)
                have d1' : ((n : Int) == 0) = true := by rw [e1]; rfl
                rw [if_pos (en.2 e1)] at hTP
                by_cases e2 : m = 0
                · have d2 : decide (0 < m) = false := decide_eq_false (by omega)
                  have d2' : ((m : Int) == 0) = true := by rw [e2]; rfl
                  rw [if_pos (em.2 e2)] at hTP
                  subst hTP
                  clear HT VT HC HPRE en em e1 e2 hk3
                  go_wp2_with (go_at_call 18; refine (awake3_any _).mono ?_; rintro e w9 ⟨rfl, hb9⟩; have B9 := Lib.hid (below_step (by first | exact ST.out.bl | exact (ST.out.drewN _).bl | exact ((ST.out.drewN _).drewN _).bl | exact (((ST.out.drewN _).drewN _).drewN _).bl | exact ((((ST.out.drewN _).drewN _).drewN _).drewN _).bl) hb9); clear hb9)
                  repeat (go_quiet (fail); try go_wp2_with (go_at_call 18; refine (awake3_any _).mono ?_; rintro e w9 ⟨rfl, hb9⟩; have B9 := Lib.hid (below_step (by first | exact ST.out.bl | exact (ST.out.drewN _).bl | exact ((ST.out.drewN _).drewN _).bl | exact (((ST.out.drewN _).drewN _).drewN _).bl | exact ((((ST.out.drewN _).drewN _).drewN _).drewN _).bl) hb9); clear hb9))
                  go_ret
                  exact ⟨rfl, B9.out⟩
                · have d2 : decide (0 < m) = true := decide_eq_true (by omega)
                  have d2' : ((m : Int) == 0) = false := by rw [beq_eq_false_iff_ne]; omega
                  rw [if_neg (fun h => e2 (em.1 h))] at hTP
                  subst hTP
                  clear HT VT HC HPRE en em e1 e2 hk3
                  go_wp2_with (go_at_call 18; refine (awake3_any _).mono ?_; rintro e w9 ⟨rfl, hb9⟩; have B9 := Lib.hid (below_step (by first | exact ST.out.bl | exact (ST.out.drewN _).bl | exact ((ST.out.drewN _).drewN _).bl | exact (((ST.out.drewN _).drewN _).drewN _).bl | exact ((((ST.out.drewN _).drewN _).drewN _).drewN _).bl) hb9); clear hb9)
                  repeat (go_quiet (fail); try go_wp2_with (go_at_call 18; refine (awake3_any _).mono ?_; rintro e w9 ⟨rfl, hb9⟩; have B9 := Lib.hid (below_step (by first | exact ST.out.bl | exact (ST.out.drewN _).bl | exact ((ST.out.drewN _).drewN _).bl | exact (((ST.out.drewN _).drewN _).drewN _).bl | exact ((((ST.out.drewN _).drewN _).drewN _).drewN _).bl) hb9); clear hb9))
                  go_ret
                  exact ⟨rfl, B9.out⟩
              · have d1 : decide (0 < n) = true := decide_eq_true (by omega)
                have d1' : ((n : Int) == 0) = false := by rw [beq_eq_false_iff_ne]; omega
                rw [if_neg (fun h => e1 (en.1 h))] at hTP
                by_cases e2 : m = 0
                · have d2 : decide (0 < m) = false := decide_eq_false (by omega)
                  have d2' : ((m : Int) == 0) = true := by rw [e2]; rfl
                  rw [if_pos (em.2 e2)] at hTP
                  subst hTP
                  clear HT VT HC HPRE en em e1 e2 hk3
                  go_wp2_with (go_at_call 18; refine (awake3_any _).mono ?_; rintro e w9 ⟨rfl, hb9⟩; have B9 := Lib.hid (below_step (by first | exact ST.out.bl | exact (ST.out.drewN _).bl | exact ((ST.out.drewN _).drewN _).bl | exact (((ST.out.drewN _).drewN _).drewN _).bl | exact ((((ST.out.drewN _).drewN _).drewN _).drewN _).bl) hb9); clear hb9)
                  repeat (go_quiet (fail); try go_wp2_with (go_at_call 18; refine (awake3_any _).mono ?_; rintro e w9 ⟨rfl, hb9⟩; have B9 := Lib.hid (below_step (by first | exact ST.out.bl | exact (ST.out.drewN _).bl | exact ((ST.out.drewN _).drewN _).bl | exact (((ST.out.drewN _).drewN _).drewN _).bl | exact ((((ST.out.drewN _).drewN _).drewN _).drewN _).bl) hb9); clear hb9))
                  go_ret
                  exact ⟨rfl, B9.out⟩
                · have d2 : decide (0 < m) = true := decide_eq_true (by omega)
                  have d2' : ((m : Int) == 0) = false := by rw [beq_eq_false_iff_ne]; omega
                  clear hTP HPRE en em e1 e2 hk3
                  go_wp2_with (go_at_call 18; refine (awake3_any _).mono ?_; rintro e w9 ⟨rfl, hb9⟩; have B9 := Lib.hid (below_step (by first | exact ST.out.bl | exact (ST.out.drewN _).bl | exact ((ST.out.drewN _).drewN _).bl | exact (((ST.out.drewN _).drewN _).drewN _).bl | exact ((((ST.out.drewN _).drewN _).drewN _).drewN _).bl) hb9); clear hb9)
                  repeat (go_quiet (fail); try go_wp2_with (go_at_call 18; refine (awake3_any _).mono ?_; rintro e w9 ⟨rfl, hb9⟩; have B9 := Lib.hid (below_step (by first | exact ST.out.bl | exact (ST.out.drewN _).bl | exact ((ST.out.drewN _).drewN _).bl | exact (((ST.out.drewN _).drewN _).drewN _).bl | exact ((((ST.out.drewN _).drewN _).drewN _).drewN _).bl) hb9); clear hb9))
                  go_ret
                  exact ⟨rfl, B9.out⟩

theorem own : ownKnob Try.prog.godebug = none := by kernel_rfl
theorem laidOut : laidOutB Try.prog = true := by kernel_rfl

set_option maxRecDepth 100000 in
theorem lifted (os : Os) (started : os.Started) (H : Type) (enc : TypeId × Value → H) :
    ReturnsInHanded {} Try.checked os 8 .any (Rows.versionCoresSpec.pre6 enc Try.prog Try.f8 Rows.versionCoresRow.domain false) (Rows.versionCoresSpec.post enc Try.prog Try.f8 false true false false) := by
  refine returnsInHanded_of_change (C := Try.checked) own started (by kernel_rfl) Try.func8
    (ChangeSpec.witness6 (enc := enc) (C := Try.checked) false ⟨#[], #[.agg #[.string ByteArray.empty, .string ByteArray.empty, .string ByteArray.empty, .slice none 0 0], .agg #[.string ByteArray.empty, .string ByteArray.empty, .string ByteArray.empty, .slice none 0 0]], []⟩ 8 (by kernel_rfl) (by kernel_rfl) (by kernel_rfl) (by kernel_rfl)) ?_
  intro W base args ds gs before hval0 hW hcnd _
  have hval : ∀ (j : Nat) t v, Try.f8.params[j]? = some t → args[j]? = some v → Value.okWide Try.prog W .any base t v := hval0
  have hW' := hW
  obtain ⟨p, q, hA0, hV, rfl, hfz, hnd⟩ := hW
  have hA : DataW.TrodAll enc Try.prog W 0 (fun _ => true) true Try.f8.params.toList args.toList ds p := hA0
  rw [Try.params8] at hA hval
  obtain ⟨v0, vs0, d0, ds0, p0, q0, hargs, rfl, rfl, h0, r0⟩ := trodAll_cons hA
  obtain ⟨v1, vs1, d1, ds1, p1, q1, rfl, rfl, rfl, h1, r1⟩ := trodAll_cons r0
  obtain ⟨rfl, rfl, rfl⟩ := trodAll_nil r1
  obtain rfl : args = #[v0, v1] := by cases args; simp_all
  obtain ⟨rfl, rfl⟩ := trodVars_none hV
  have k0 := h0
  have lt0 : ∀ x ∈ p0, x.block < W.heap.size := by obtain ⟨m, hm⟩ := k0; exact DataW.trod_lt m _ _ _ hm
  obtain ⟨z0, w0⟩ := ver_open (hval 0 24 v0 rfl rfl) h0
  have k1 := h1
  have lt1 : ∀ x ∈ p1, x.block < W.heap.size := by obtain ⟨m, hm⟩ := k1; exact DataW.trod_lt m _ _ _ hm
  obtain ⟨z1, w1⟩ := ver_open (hval 1 24 v1 rfl rfl) h1
  clear hA0 hval0
  refine (walk _ z0 _ z1 W w0 w1).mono fun e W' ⟨he, bel⟩ => ?_
  subst he
  exact ⟨_, rfl, _, _, _, [], _, [], hW', trodAll_mk1 (shut_bool Try.underlying4 _), (trodAll_cons_mk (Below.trod laidOut (by kernel_rfl) (of_decide_eq_true (by kernel_rfl)) k0 bel lt0) (trodAll_cons_mk (Below.trod laidOut (by kernel_rfl) (of_decide_eq_true (by kernel_rfl)) k1 bel lt1) trodAll_mk0)), rfl, bel.frame _, fun h => by cases h⟩

-- the given statement
theorem proved : Rows.VersionCoresSaid :=
  OpenClaim.holds_of_wide 8 Try.f8 rfl rfl rfl rfl rfl rfl rfl ⟨rfl, rfl, rfl, rfl, rfl⟩ rfl rfl rfl rfl rfl (by kernel_rfl) Try.func8 (by kernel_rfl)
    (of_decide_eq_true (by kernel_rfl)) (by unfold Func.isWrapper; first | (rw [if_pos (by decide +kernel)]; kernel_rfl) | (rw [if_neg (by decide +kernel)]; exact ⟨rfl, rfl⟩))
    (fun os started H enc _ => lifted os started H enc)
end Go.Proofs.Ytcdflfjbdbofcaa.versionCores
