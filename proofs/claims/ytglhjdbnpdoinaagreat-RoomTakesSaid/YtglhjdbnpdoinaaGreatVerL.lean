/- The document's order of two versions. -/
import Derived.Test.YtglhjdbnpdoinaaGreatVerK
namespace Go.Proofs.YtglhjdbnpdoinaaGreat
open Go.RowKit
set_option maxRecDepth 100000

set_option maxHeartbeats 800000 in
theorem refwords_any (a b : List UInt8) (w : World) (ha : a.length ≤ 1000000000) (hb : b.length ≤ 1000000000) :
    Calls Tryz.prog 79 #[.string (mkB a), .string (mkB b)] w fun e w' => e = .returned (.int .i64 (wordC a b)) ∧ ∃ n, w' = w.drewN n := by
  have HA : Hid ((mkB a).size ≤ 1000000000) := Lib.hid (by rw [mkB_size]; omega)
  have HB : Hid ((mkB b).size ≤ 1000000000) := Lib.hid (by rw [mkB_size]; omega)
  have HA' : Hid ((mkB a).size ≤ maxLen) := Lib.hid (by rw [mkB_size]; unfold maxLen; omega)
  have HB' : Hid ((mkB b).size ≤ maxLen) := Lib.hid (by rw [mkB_size]; unfold maxLen; omega)
  clear ha hb
  obtain ⟨x, hx⟩ : ∃ x, mayL a = x := ⟨_, rfl⟩
  obtain ⟨y, hy⟩ : ∃ y, mayL b = y := ⟨_, rfl⟩
  have hw : wordC a b = if x = true then (if y = true then cmpN a b else -1) else (if y = true then 1 else Lib.compareBytes a b) := by
    unfold wordC; rw [hx, hy]
  have HX := Lib.hid hx; have HY := Lib.hid hy; have HW := Lib.hid hw; clear hx hy hw
  cases x <;> cases y
  all_goals
    go_enter Tryz.func79, Tryz.ntmps79
    go_wp2_with (first
      | (go_at_call 68; refine (refmay_any _ _ (by first | exact HA.out | exact HB.out)).mono ?_; rintro e w1 ⟨rfl, rfl⟩; rw [mkB_list]; first | rw [HX.out] | rw [HY.out])
      | (go_at_call 78; refine (refcmp2_any _ _ _ HA.out HB.out (by rw [mkB_list]; exact HX.out) (by rw [mkB_list]; exact HY.out)).mono ?_; rintro e w3 ⟨rfl, rfl⟩; rw [mkB_list, mkB_list])
      | (go_at_call 63; refine (refcmp_any _ _ _ HA'.out HB'.out).mono ?_; rintro e w4 ⟨rfl, n, rfl⟩; rw [mkB_list, mkB_list]))
    go_ret
    first
      | exact ⟨ret_int (by rw [HW.out]; simp), 0, rfl⟩
      | exact ⟨ret_int (by rw [HW.out]; simp), _, rfl⟩

/-- What the walk keeps of the two versions. -/
structure TwoPre (w0 w : World) (g5 g7 : Nat) (a1 a2 : Option Addr) (c1 c2 n m : Nat) (p q : List (List UInt8)) : Prop where
  x5 : w.cell? ⟨g5, 3, none⟩ = some (.slice a1 n c1)
  x7 : w.cell? ⟨g7, 3, none⟩ = some (.slice a2 m c2)
  s1 : Strs w (.slice a1 n c1) p
  s2 : Strs w (.slice a2 m c2) q
  bl : Bel w0.heap.size w0 w
theorem TwoPre.drewN {w0 w : World} {g5 g7 : Nat} {a1 a2 : Option Addr} {c1 c2 n m : Nat} {p q : List (List UInt8)} (k : Nat) (h : TwoPre w0 w g5 g7 a1 a2 c1 c2 n m p q) : TwoPre w0 (w.drewN k) g5 g7 a1 a2 c1 c2 n m p q :=
  ⟨by simpa using h.x5, by simpa using h.x7, h.s1.drewN k, h.s2.drewN k, bel_step h.bl (bel_q ⟨k, rfl⟩)⟩

set_option maxHeartbeats 3200000 in
set_option maxRecDepth 100000 in
theorem refvcmp_any (s t : ByteArray) (w : World) (hs : s.size ≤ 1000000000) (ht : t.size ≤ 1000000000) (os : okV s.data.toList = true) (ot : okV t.data.toList = true) :
    Calls Tryz.prog 64 #[.string s, .string t] w fun e w' => e = .returned (.int .i64 (cmpT s.data.toList t.data.toList)) ∧ Bel w.heap.size w w' := by
  have SS := small_verOf s.data.toList (by rw [← Lib.size_eq]; exact hs)
  have ST := small_verOf t.data.toList (by rw [← Lib.size_eq]; exact ht)
  obtain ⟨_, fs⟩ := join_ok os
  obtain ⟨_, ft⟩ := join_ok ot
  obtain ⟨T, hT⟩ : ∃ T, cmpT s.data.toList t.data.toList = T := ⟨_, rfl⟩
  rw [hT]
  unfold cmpT at hT
  obtain ⟨v, hv⟩ : ∃ v, verOf s.data.toList = v := ⟨_, rfl⟩
  obtain ⟨u, hu⟩ : ∃ u, verOf t.data.toList = u := ⟨_, rfl⟩
  rw [hv] at fs SS hT; rw [hu] at ft ST hT
  have HS := Lib.hid hs; have HT' := Lib.hid ht; have HV := Lib.hid hv; have HU := Lib.hid hu; have OS := Lib.hid os; have OT := Lib.hid ot
  clear hs ht hv hu os ot
  obtain ⟨ma, mi, pa, pre⟩ := v
  obtain ⟨ma', mi', pa', pre'⟩ := u
  obtain ⟨p1, p2, p3, _⟩ := fit_parts fs
  obtain ⟨q1, q2, q3, _⟩ := fit_parts ft
  obtain ⟨l1, l2, l3, l4, l5⟩ := SS
  obtain ⟨k1, k2, k3, k4, k5⟩ := ST
  simp only at p1 p2 p3 q1 q2 q3 l1 l2 l3 l4 l5 k1 k2 k3 k4 k5
  clear fs ft
  obtain ⟨A, hA⟩ : ∃ A, cmpN ma ma' = A := ⟨_, rfl⟩
  obtain ⟨B, hB⟩ : ∃ B, cmpN mi mi' = B := ⟨_, rfl⟩
  obtain ⟨C, hC⟩ : ∃ C, cmpN pa pa' = C := ⟨_, rfl⟩
  have bA := cmpN_bd ma ma'; have bB := cmpN_bd mi mi'; have bC := cmpN_bd pa pa'
  rw [hA] at bA; rw [hB] at bB; rw [hC] at bC
  have hT2 : T = if A ≠ 0 then A else if B ≠ 0 then B else if C ≠ 0 then C else preC pre pre' := by
    rw [← hT]
    unfold cmpV numsL
    simp only [lexI, hA, hB, hC]
    by_cases a0 : A = 0 <;> by_cases b0 : B = 0 <;> by_cases c0 : C = 0 <;> simp [a0, b0, c0]
  clear hT
  obtain ⟨n, hn⟩ : ∃ n, pre.length = n := ⟨_, rfl⟩
  obtain ⟨m, hm⟩ : ∃ m, pre'.length = m := ⟨_, rfl⟩
  rw [hn] at l4; rw [hm] at k4
  have P1 := Lib.hid p1; have P2 := Lib.hid p2; have P3 := Lib.hid p3; have Q1 := Lib.hid q1; have Q2 := Lib.hid q2; have Q3 := Lib.hid q3
  have L1 : Hid ((mkB ma).size ≤ 1000000000) := Lib.hid (by rw [mkB_size]; exact l1)
  have L2 : Hid ((mkB mi).size ≤ 1000000000) := Lib.hid (by rw [mkB_size]; exact l2)
  have L3 : Hid ((mkB pa).size ≤ 1000000000) := Lib.hid (by rw [mkB_size]; exact l3)
  have K1 : Hid ((mkB ma').size ≤ 1000000000) := Lib.hid (by rw [mkB_size]; exact k1)
  have K2 : Hid ((mkB mi').size ≤ 1000000000) := Lib.hid (by rw [mkB_size]; exact k2)
  have K3 : Hid ((mkB pa').size ≤ 1000000000) := Lib.hid (by rw [mkB_size]; exact k3)
  have L5 := Lib.hid l5; have K5 := Lib.hid k5; have HA := Lib.hid hA; have HB := Lib.hid hB; have HC := Lib.hid hC; have HT := Lib.hid hT2; have HN := Lib.hid hn; have HM := Lib.hid hm
  clear p1 p2 p3 q1 q2 q3 l1 l2 l3 k1 k2 k3 l5 k5 hA hB hC hT2 hn hm
  obtain ⟨bA1, bA2⟩ := bA; obtain ⟨bB1, bB2⟩ := bB; obtain ⟨bC1, bC2⟩ := bC
  go_enter Tryz.func64, Tryz.ntmps64
  go_upto_region 2 with (go_at_call 57; refine (refsplit_e _ _ HS.out).mono ?_; rintro e w1 ⟨a1, c1, rfl, hst1, hb1⟩; rw [HV.out] at hst1 ⊢; rw [OS.out]; rw [HN.out] at hst1 ⊢; have ST1 := Lib.hid hst1; have B1 := Lib.hid hb1; clear hst1 hb1)
  go_upto_region 3 with (go_at_call 57; refine (refsplit_e _ _ HT'.out).mono ?_; rintro e w2 ⟨a2, c2, rfl, hst2, hb2⟩; rw [HU.out] at hst2 ⊢; rw [OT.out]; rw [HM.out] at hst2 ⊢; have ST2 := Lib.hid hst2; have B2 := Lib.hid hb2; clear hst2 hb2)
  obtain ⟨wC, hwC⟩ : ∃ wC, wC = w2.alloc (.cells #[.string (mkB ma'), .string (mkB mi'), .string (mkB pa'), .slice a2 m c2] 81) := ⟨_, rfl⟩
  rw [← hwC]
  have r5 : wC.heap[w1.heap.size]? = some (.cells #[.string (mkB ma), .string (mkB mi), .string (mkB pa), .slice a1 n c1] 81) := by rw [hwC]; exact row_keep (row_keep (heap_alloc_new w1 _) B2.out) ((Bel.refl _ _).alloc (Nat.le_refl _) _)
  have r7 : wC.heap[w2.heap.size]? = some (.cells #[.string (mkB ma'), .string (mkB mi'), .string (mkB pa'), .slice a2 m c2] 81) := by rw [hwC]; exact heap_alloc_new _ _
  have hb : Bel w.heap.size w wC := by rw [hwC]; have h := bel_step (B1.out.alloc B1.out.size (.cells #[.string (mkB ma), .string (mkB mi), .string (mkB pa), .slice a1 n c1] 81)) B2.out; exact h.alloc h.size _
  have hs1 : Strs wC (.slice a1 n c1) pre := by rw [hwC]; exact ((ST1.out.below ((Bel.refl _ _).alloc (Nat.le_refl _) (.cells #[.string (mkB ma), .string (mkB mi), .string (mkB pa), .slice a1 n c1] 81))).below B2.out).below ((Bel.refl _ _).alloc (Nat.le_refl _) _)
  have hs2 : Strs wC (.slice a2 m c2) pre' := by rw [hwC]; exact ST2.out.below ((Bel.refl _ _).alloc (Nat.le_refl _) _)
  clear hwC B1 B2 ST1 ST2
  obtain ⟨g5, hg5⟩ : ∃ g, g = w1.heap.size := ⟨_, rfl⟩
  obtain ⟨g7, hg7⟩ : ∃ g, g = w2.heap.size := ⟨_, rfl⟩
  rw [← hg5] at r5 ⊢; rw [← hg7] at r7 ⊢
  clear hg5 hg7
  obtain ⟨x0, x1, x2, x3, _, _, _, _⟩ := row4 r5
  obtain ⟨y0, y1, y2, y3, _, _, _, _⟩ := row4 r7
  have TP : Hid (TwoPre w wC g5 g7 a1 a2 c1 c2 n m pre pre') := Lib.hid ⟨x3, y3, hs1, hs2, hb⟩
  clear r5 r7 hs1 hs2 hb
  by_cases a0 : A = 0
  · have ha : (A != 0) = false := by rw [a0]; rfl
    by_cases b0 : B = 0
    · have hb : (B != 0) = false := by rw [b0]; rfl
      by_cases c0 : C = 0
      · have hc : (C != 0) = false := by rw [c0]; rfl
        have hTT : T = preC pre pre' := by rw [HT.out]; simp [a0, b0, c0]
        have HTT := Lib.hid hTT
        clear a0 b0 c0 hTT HT
        go_wp2_with (go_at_call 78; refine (refcmp2_any _ _ _ (by first | exact L1.out | exact L2.out | exact L3.out) (by first | exact K1.out | exact K2.out | exact K3.out) (by rw [mkB_list]; first | exact P1.out | exact P2.out | exact P3.out) (by rw [mkB_list]; first | exact Q1.out | exact Q2.out | exact Q3.out)).mono ?_; rintro e w' ⟨rfl, rfl⟩; rw [mkB_list, mkB_list]; first | rw [HA.out] | rw [HB.out] | rw [HC.out])
        go_quiet (fail)
        clear x0 x1 x2 x3 y0 y1 y2 y3
        have TPq := Lib.hid (TP.out.drewN nq)
        obtain ⟨wq, hwq⟩ : ∃ wq, wq = wC.drewN nq := ⟨_, rfl⟩
        rw [← hwq] at TPq ⊢
        clear hwq TP ha hb hc
        have hn0 : pre = [] ↔ n = 0 := by rw [← HN.out]; exact List.length_eq_zero_iff.symm
        have hm0 : pre' = [] ↔ m = 0 := by rw [← HM.out]; exact List.length_eq_zero_iff.symm
        by_cases hn : n = 0
        · by_cases hm : m = 0
          · have hbn : ((n : Int) == 0) = true := by rw [hn]; rfl
            have hbm : ((m : Int) == 0) = true := by rw [hm]; rfl
            have hT : T = 0 := by
              rw [HTT.out]; unfold preC
              rw [if_pos (hn0.2 hn), if_pos (hm0.2 hm)]
            have HTF := Lib.hid hT
            clear hT hn hm hn0 hm0
            go_wp2
            go_ret
            exact ⟨ret_int HTF.out.symm, TPq.out.bl⟩
          · have hbn : ((n : Int) == 0) = true := by rw [hn]; rfl
            have hbm : ((m : Int) == 0) = false := by rw [beq_eq_false_iff_ne]; omega
            have hT : T = 1 := by
              rw [HTT.out]; unfold preC
              rw [if_pos (hn0.2 hn), if_neg (fun h => hm (hm0.1 h))]
            have HTF := Lib.hid hT
            clear hT hn hm hn0 hm0
            go_wp2
            go_ret
            exact ⟨ret_int HTF.out.symm, TPq.out.bl⟩
        · by_cases hm : m = 0
          · have hbn : ((n : Int) == 0) = false := by rw [beq_eq_false_iff_ne]; omega
            have hbm : ((m : Int) == 0) = true := by rw [hm]; rfl
            have hT : T = -1 := by
              rw [HTT.out]; unfold preC
              rw [if_neg (fun h => hn (hn0.1 h)), if_pos (hm0.2 hm)]
            have HTF := Lib.hid hT
            clear hT hn hm hn0 hm0
            go_wp2
            go_ret
            exact ⟨ret_int HTF.out.symm, TPq.out.bl⟩
          · have hbn : ((n : Int) == 0) = false := by rw [beq_eq_false_iff_ne]; omega
            have hbm : ((m : Int) == 0) = false := by rw [beq_eq_false_iff_ne]; omega
            have hT : lexI wordC pre pre' = T := by
              rw [HTT.out]; unfold preC
              rw [if_neg (fun h => hn (hn0.1 h)), if_neg (fun h => hm (hm0.1 h))]
            have HTF := Lib.hid hT
            clear hT hn hm hn0 hm0
            go_wp2
            go_loopw [14] (fun i wr => ∃ k : Nat, k ≤ n ∧ k ≤ m ∧ i = .int .i64 k ∧ Hid (lexI wordC (pre.drop k) (pre'.drop k) = T) ∧ Hid (TwoPre w wr g5 g7 a1 a2 c1 c2 n m pre pre')) (fun i _ => n - (intOf i).toNat)
            case atStart => exact ⟨0, Nat.zero_le _, Nat.zero_le _, rfl, Lib.hid (by rw [List.drop_zero, List.drop_zero]; exact HTF.out), TPq⟩
            case round =>
              obtain ⟨k, hkn, hkm, rfl, H, TR⟩ := hrel
              clear hbn hbm
              by_cases hln : k < n
              · by_cases hlm : k < m
                · have hln' : k < pre.length := by rw [HN.out]; exact hln
                  have hlm' : k < pre'.length := by rw [HM.out]; exact hlm
                  have x3 := TR.out.x5
                  have y3 := TR.out.x7
                  obtain ⟨ba, oa, rfl, _, hc1⟩ := strs_at TR.out.s1 k hln'
                  obtain ⟨bb, ob, rfl, _, hc2⟩ := strs_at TR.out.s2 k hlm'
                  have hst := lexI_step wordC pre pre' k hln' hlm'
                  have Z1 : Hid ((pre.getD k []).length ≤ 1000000000) := Lib.hid (L5.out _ (mem_getD hln'))
                  have Z2 : Hid ((pre'.getD k []).length ≤ 1000000000) := Lib.hid (K5.out _ (mem_getD hlm'))
                  obtain ⟨x, hx⟩ : ∃ x, pre.getD k [] = x := ⟨_, rfl⟩
                  obtain ⟨y, hy⟩ : ∃ y, pre'.getD k [] = y := ⟨_, rfl⟩
                  rw [hx] at hc1 Z1 hst; rw [hy] at hc2 Z2 hst
                  have hvv := wordC_vals x y
                  obtain ⟨z, hz⟩ : ∃ z, wordC x y = z := ⟨_, rfl⟩
                  rw [hz] at hst hvv
                  have HST := Lib.hid hst; have HZ := Lib.hid hz
                  have CW : Hid (∀ W, Calls Tryz.prog 79 #[.string (mkB x), .string (mkB y)] W fun e w' => e = .returned (.int .i64 z) ∧ ∃ n, w' = W.drewN n) := Lib.hid fun W => by rw [← HZ.out]; exact refwords_any x y W Z1.out Z2.out
                  clear hst hz hx hy hln' hlm'
                  obtain ⟨hv1, hv2⟩ := hvv
                  have j1 : (0 : Int) ≤ (k : Int) := by omega
                  have j2 : (k : Int) < (n : Int) := by omega
                  have j3 : (k : Int) < (m : Int) := by omega
                  by_cases z0 : z = 0
                  · have hb0 : (z != 0) = false := by simpa using z0
                    have Z0 := Lib.hid z0; clear z0
                    go_wp2
                    go_quiet ((go_at_call 79; exact Calls.quiet_of (CW.out _)))
                    go_wp2
                    go_roundw
                    case rel => exact ⟨k + 1, by omega, by omega, by go_num, Lib.hid (by rw [← H.out, HST.out, if_neg (by have := Z0.out; omega)]), Lib.hid (TR.out.drewN _)⟩
                    case measure => simp [intOf]; omega
                  · have hb0 : (z != 0) = true := by simpa using z0
                    have Z0 := Lib.hid z0; clear z0
                    go_wp2
                    go_quiet ((go_at_call 79; exact Calls.quiet_of (CW.out _)))
                    go_wp2
                    go_ret
                    exact ⟨ret_int (by rw [← H.out, HST.out, if_pos Z0.out]), (TR.out.drewN _).bl⟩
                · have hle := lexI_long wordC pre pre' k (by rw [HN.out]; exact hln) (by rw [HM.out]; omega)
                  have HE : Hid (T = 1) := Lib.hid (by rw [← H.out, hle])
                  have j4 : m < n := by omega
                  clear hle
                  go_wp2
                  go_ret
                  exact ⟨ret_int HE.out.symm, TR.out.bl⟩
              · have hle := lexI_end wordC pre pre' k (by rw [HN.out]; omega)
                by_cases hlm : k < m
                · have HE : Hid (T = -1) := Lib.hid (by rw [← H.out, hle, if_pos (by rw [HM.out]; exact hlm)])
                  have j4 : n < m := by omega
                  clear hle
                  go_wp2
                  go_ret
                  exact ⟨ret_int HE.out.symm, TR.out.bl⟩
                · have HE : Hid (T = 0) := Lib.hid (by rw [← H.out, hle, if_neg (by rw [HM.out]; exact hlm)])
                  have j4 : ¬ n < m := by omega
                  have j5 : ¬ m < n := by omega
                  clear hle
                  go_wp2
                  go_ret
                  exact ⟨ret_int HE.out.symm, TR.out.bl⟩
      · have hc : (C != 0) = true := by simpa using c0
        have hTT : T = C := by rw [HT.out]; simp [a0, b0, c0]
        have HTT := Lib.hid hTT
        clear a0 b0 c0 hTT HT
        go_wp2_with (go_at_call 78; refine (refcmp2_any _ _ _ (by first | exact L1.out | exact L2.out | exact L3.out) (by first | exact K1.out | exact K2.out | exact K3.out) (by rw [mkB_list]; first | exact P1.out | exact P2.out | exact P3.out) (by rw [mkB_list]; first | exact Q1.out | exact Q2.out | exact Q3.out)).mono ?_; rintro e w' ⟨rfl, rfl⟩; rw [mkB_list, mkB_list]; first | rw [HA.out] | rw [HB.out] | rw [HC.out])
        go_ret
        exact ⟨ret_int HTT.out.symm, TP.out.bl⟩
    · have hb : (B != 0) = true := by simpa using b0
      have hTT : T = B := by rw [HT.out]; simp [a0, b0]
      have HTT := Lib.hid hTT
      clear a0 b0 hTT HT
      go_wp2_with (go_at_call 78; refine (refcmp2_any _ _ _ (by first | exact L1.out | exact L2.out | exact L3.out) (by first | exact K1.out | exact K2.out | exact K3.out) (by rw [mkB_list]; first | exact P1.out | exact P2.out | exact P3.out) (by rw [mkB_list]; first | exact Q1.out | exact Q2.out | exact Q3.out)).mono ?_; rintro e w' ⟨rfl, rfl⟩; rw [mkB_list, mkB_list]; first | rw [HA.out] | rw [HB.out] | rw [HC.out])
      go_ret
      exact ⟨ret_int HTT.out.symm, TP.out.bl⟩
  · have ha : (A != 0) = true := by simpa using a0
    have hTT : T = A := by rw [HT.out]; simp [a0]
    have HTT := Lib.hid hTT
    clear a0 hTT HT
    go_wp2_with (go_at_call 78; refine (refcmp2_any _ _ _ (by first | exact L1.out | exact L2.out | exact L3.out) (by first | exact K1.out | exact K2.out | exact K3.out) (by rw [mkB_list]; first | exact P1.out | exact P2.out | exact P3.out) (by rw [mkB_list]; first | exact Q1.out | exact Q2.out | exact Q3.out)).mono ?_; rintro e w' ⟨rfl, rfl⟩; rw [mkB_list, mkB_list]; first | rw [HA.out] | rw [HB.out] | rw [HC.out])
    go_ret
    exact ⟨ret_int HTT.out.symm, TP.out.bl⟩
end Go.Proofs.YtglhjdbnpdoinaaGreat
