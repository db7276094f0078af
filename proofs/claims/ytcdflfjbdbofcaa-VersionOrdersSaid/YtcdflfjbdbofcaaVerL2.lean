/- For every two texts and every list of texts (no longer than is looked at): version's order of the two, and the last one of the list, or why not, are the document's; no condition. -/
import Derived.Test.YtcdflfjbdbofcaaRows
import Derived.Test.YtcdflfjbdbofcaaVerR
import Derived.Test.YtcdflfjbdbofcaaVerT
import Derived.Deep.CutRange
import Derived.Deep.DeepCutAuto
import Derived.ProofKit
import Derived.OpenShut
import Derived.ShutString
import Derived.ChangeOld
namespace Go.Proofs.Ytcdflfjbdbofcaa.versionOrders
open Go.ChangeShapes Go.WideShapes Go.ChangeAt Go.RowKit
open Go.ChangeMaps (open_string shut_string)
set_option linter.unusedVariables false

def bestK (S : List (List UInt8)) (k : Nat) : List UInt8 := if k = 0 then S.getD 0 [] else maxK S k
theorem bestK_step (S : List (List UInt8)) (k : Nat) (h : k < S.length) : bestK S (k + 1) = if 0 < cmpT (S.getD k []) (bestK S k) then S.getD k [] else bestK S k := by
  unfold bestK
  rw [if_neg (by omega), maxK]
  by_cases h0 : k = 0
  · subst h0; rw [if_pos (.inl rfl), if_pos rfl, if_neg (by rw [cmpT_self]; omega)]
  · rw [if_neg h0]
    by_cases hc : 0 < cmpT (S.getD k []) (maxK S k)
    · rw [if_pos (.inr hc), if_pos hc]
    · rw [if_neg (by omega), if_neg hc]
theorem bestK_mem (S : List (List UInt8)) (k : Nat) (h : k ≤ S.length) (hn : S ≠ []) : bestK S k ∈ S := by
  unfold bestK
  split
  · exact mem_getD (List.length_pos_iff.2 hn)
  · exact maxK_mem S k h (by omega)
theorem bestK_ok (S : List (List UInt8)) (k : Nat) (h : k < S.length) (hall : (S.take k).all okV = true) (hk : okV (S.getD k []) = true) : okV (bestK S k) = true := by
  unfold bestK
  split
  · rename_i e; subst e; exact hk
  · exact List.all_eq_true.1 hall _ (maxK_take S k (by omega) (by omega))
set_option maxRecDepth 100000 in
set_option maxHeartbeats 25600000 in
theorem walk (a b : ByteArray) (V : Value) (ls : List (List UInt8)) (w : World) (ha : a.size ≤ maxLen) (hb : b.size ≤ maxLen) (hl : Strs w V ls ∧ ∀ l ∈ ls, l.length ≤ maxLen) :
    Calls Try.prog 4 #[.string a, .string b, V] w fun e w' => e = .returned (.bool true) ∧ Below w.heap.size w w' := by
  obtain ⟨x, hx⟩ : ∃ x, fewL a.data.toList = x := ⟨_, rfl⟩
  have SX : Hid ((mkB x).size ≤ 1000000000) := Lib.hid (by rw [mkB_size, ← hx]; have := fewL_le a.data.toList; omega)
  have LX : Hid (x.length ≤ 400) := Lib.hid (by rw [← hx]; exact fewL_le _)
  have HA := Lib.hid ha
  have HX := Lib.hid hx; clear hx ha
  obtain ⟨y, hy⟩ : ∃ y, fewL b.data.toList = y := ⟨_, rfl⟩
  have SY : Hid ((mkB y).size ≤ 1000000000) := Lib.hid (by rw [mkB_size, ← hy]; have := fewL_le b.data.toList; omega)
  have LY : Hid (y.length ≤ 400) := Lib.hid (by rw [← hy]; exact fewL_le _)
  have HB := Lib.hid hb
  have HY := Lib.hid hy; clear hy hb
  obtain ⟨hst, hs5⟩ := hl
  obtain ⟨al, cl, rfl, _, hcl, _, _⟩ := hst.ex
  obtain ⟨n, hn⟩ : ∃ n, ls.length = n := ⟨_, rfl⟩
  have hnm : n ≤ 9223372036854775807 := by
    obtain ⟨a', c', hv, h1, h2, _⟩ := hst.ex
    injection hv with _ h3 _
    unfold maxLen at h2
    omega
  rw [hn] at hst ⊢
  obtain ⟨S, hS⟩ : ∃ S, (ls.take 12).map fewL = S := ⟨_, rfl⟩
  have S4 : Hid (∀ l ∈ S, l.length ≤ 1000000000) := Lib.hid (fun l hl => by rw [← hS] at hl; obtain ⟨q, _, rfl⟩ := List.mem_map.1 hl; have := fewL_le q; omega)
  obtain ⟨m, hm⟩ : ∃ m, S.length = m := ⟨_, rfl⟩
  obtain ⟨R1, R2, hM⟩ : ∃ r1 r2, maxE S = (r1, r2) := ⟨_, _, rfl⟩
  have hmm : m ≤ 12 := by rw [← hm, ← hS, List.length_map]; exact List.length_take_le _ _
  have HST := Lib.hid hst; have S5 := Lib.hid hs5; have HN := Lib.hid hn; have HS := Lib.hid hS; have HSN := Lib.hid hm; have HM := Lib.hid hM
  clear hst hs5 hn hS hm hM hcl
  have B0 := Below.refl w.heap.size w
  obtain ⟨ox, hox⟩ : ∃ o, okV x = o := ⟨_, rfl⟩
  obtain ⟨oy, hoy⟩ : ∃ o, okV y = o := ⟨_, rfl⟩
  obtain ⟨T, hT⟩ : ∃ T, cmpT x y = T := ⟨_, rfl⟩
  have he := vcmpE_of hox hoy
  rw [hT] at he
  have OX := Lib.hid hox; have OY := Lib.hid hoy; have HT := Lib.hid hT; clear hox hoy hT
  have hcase : (ox = false ∧ vcmpE x y = (0, 1)) ∨ (ox = true ∧ oy = false ∧ vcmpE x y = (0, 1)) ∨ (ox = true ∧ oy = true ∧ vcmpE x y = (T, 0)) := by
    rw [he]; cases ox <;> cases oy <;> simp
  clear he
  rcases hcase with ⟨rfl, he⟩ | ⟨rfl, rfl, he⟩ | ⟨rfl, rfl, he⟩
  all_goals
    have HE := Lib.hid he; clear he
    go_enter Try.func4, Try.ntmps4
    go_wp2_with (first
      | (go_at_call 10; refine (few_ml _ _ (by first | exact HA.out | exact HB.out)).mono ?_; rintro e w' ⟨rfl, rfl⟩; first | rw [HX.out] | rw [HY.out])
      | (go_at_call 19; refine (vcmp_any _ _ _ SX.out SY.out).mono ?_; rintro e w1 ⟨rfl, hb1⟩; have B1 := below_step (by assumption) hb1; clear hb1; rw [mkB_list, mkB_list, HE.out])
      | (go_at_call 20; refine (refvmay_any _ _ (by first | exact SX.out | exact SY.out)).mono ?_; rintro e w1 ⟨rfl, hb1⟩; have B1 := below_step (by assumption) hb1; clear hb1; rw [mkB_list]; first | rw [OX.out] | rw [OY.out])
      | (go_at_call 21; refine (refvcmp_any _ _ _ SX.out SY.out (by rw [mkB_list]; exact OX.out) (by rw [mkB_list]; exact OY.out)).mono ?_; rintro e w1 ⟨rfl, hb1⟩; have B1 := below_step (by assumption) hb1; clear hb1; rw [mkB_list, mkB_list, HT.out]))
    have BL := Lib.hid B1
    go_loopw [9, 10] (fun v i wr => ∃ (k : Nat) (acc : List (List UInt8)), k ≤ n ∧ k ≤ 12 ∧ i = .int .i64 k ∧ acc.length = k ∧ Hid (acc = (ls.take k).map fewL) ∧ wr.ownsRow w1.heap.size 9 1 v acc.length (acc.map strV) ∧ Hid (Below w1.heap.size w1 wr)) (fun _ i _ => n - (intOf i).toNat)
    case atStart => exact ⟨0, [], Nat.zero_le _, Nat.zero_le _, rfl, rfl, Lib.hid (by simp), World.ownsRow_nil _ _ _ _, Lib.hid (Below.refl _ _)⟩
    case round =>
      obtain ⟨k, acc, hkn, hk8, rfl, hal, HACC, hown, HBR⟩ := hrel
      by_cases hlt : k < n
      · by_cases h8 : k < 12
        · have hlt' : k < ls.length := by rw [HN.out]; exact hlt
          obtain ⟨b1, off1, ha1, hbl, hc⟩ := strs_at HST.out k hlt'
          subst ha1
          have hcell := (HBR.out.cell (p := ⟨b1, off1 + k, none⟩) (Nat.lt_of_lt_of_le hbl BL.out.size)).trans ((BL.out.cell (p := ⟨b1, off1 + k, none⟩) hbl).trans hc)
          have HQ : Hid ((ls.getD k []).length ≤ maxLen) := Lib.hid (S5.out _ (mem_getD hlt'))
          have hsucc : (ls.take (k + 1)).map fewL = (ls.take k).map fewL ++ [fewL (ls.getD k [])] := by
            rw [List.take_succ_eq_append_getElem hlt', List.map_append, List.getD_eq_getElem?_getD, List.getElem?_eq_getElem hlt']; rfl
          obtain ⟨q, hq⟩ : ∃ q, ls.getD k [] = q := ⟨_, rfl⟩
          rw [hq] at hcell HQ hsucc
          have HSUCC := Lib.hid hsucc
          have HAL := Lib.hid hal; have HOWN := Lib.hid hown
          clear hc hbl hq hlt' hsucc hal hown
          go_wp2_with (first
            | (go_at_call 10; refine (few_l _ _ HQ.out).mono ?_; rintro e w' ⟨rfl, rfl⟩)
            | (at_builtin; refine wpList_append_new rfl _ _ 22 rfl w1.heap.size 9 (.string ByteArray.empty) 1 16 Try.underlying22 Try.info_str rfl (by decide) _ _ _ rfl HOWN.out [.string (mkB (fewL q))] rfl rfl rfl (by have := HAL.out; omega) (by have := HAL.out; unfold maxLen; omega) HBR.out.size ?_))
          intro v' w' hown' hb'
          have ho2 : w'.ownsRow w1.heap.size 9 1 v' (acc ++ [fewL q]).length ((acc ++ [fewL q]).map strV) := by
            rw [List.length_append, List.map_append]; exact hown'
          have HO := Lib.hid ho2; clear ho2 hown'
          have HB2 := Lib.hid (HBR.out.trans hb')
          clear hb'
          go_wp2
          go_roundw
          case rel => exact ⟨k + 1, acc ++ [fewL q], by omega, by omega, by go_num, by rw [List.length_append, HAL.out]; rfl, Lib.hid (by rw [HSUCC.out, HACC.out]), HO.out, HB2⟩
          case measure => simp [intOf]; omega
        · have hout : acc = S := by
            rw [HACC.out, ← HS.out]
            have : k = 12 := by omega
            rw [this]
          obtain ⟨ao, co, rfl, hso, _⟩ := strsO hown
          rw [hout] at hso ⊢
          have ST := Lib.hid hso
          have BF := Lib.hid (below_step BL.out HBR.out)
          clear hout hown hal hso HACC HBR hkn hk8
          go_upto_region 14 with (go_at_call 22; refine (max_any _ S _ ST.out S4.out).mono ?_; rintro e w2 ⟨rfl, hb2⟩; rw [HM.out]; have BM := Lib.hid (below_step BF.out hb2); have SM := Lib.hid (ST.out.below hb2); clear hb2)
          clear ST BF
          obtain ⟨M, hM⟩ : ∃ M, mkB R1 = M := ⟨_, rfl⟩
          rw [hM]
          have HMM := Lib.hid hM; clear hM
          by_cases hz : m = 0
          · have hS0 : S = [] := List.eq_nil_of_length_eq_zero (by rw [HSN.out, hz])
            have hR : R1 = [] ∧ R2 = 2 := by have h := HM.out; rw [hS0] at h; simp only [maxE, Prod.mk.injEq] at h; exact ⟨h.1.symm, h.2.symm⟩
            have hMe : M.toList.isEmpty = true := by rw [← HMM.out, hR.1, empty_iff, mkB_size]; rfl
            have hR2 : R2 = 2 := hR.2
            have hm0 : ((m : Int) == 0) = true := by rw [hz]; rfl
            have hr0 : (R2 == 2) = true := by rw [hR2]; rfl
            clear hS0 hR hR2 hz
            rw [HSN.out]
            go_wp2_with (go_at_call 18; refine (awake3_any _).mono ?_; rintro e w9 ⟨rfl, hb9⟩; have B9 := Lib.hid (below_step BM.out hb9); clear hb9)
            go_ret
            exact ⟨rfl, B9.out⟩
          · have hm0 : ((m : Int) == 0) = false := by rw [beq_eq_false_iff_ne]; omega
            have hn0 : S ≠ [] := fun e => hz (by rw [← HSN.out, e]; rfl)
            have hl0 : 0 < S.length := by rw [HSN.out]; omega
            obtain ⟨b2, off2, ha2, hbl2, hc2⟩ := strs_at SM.out 0 hl0
            subst ha2
            replace hc2 : w2.cell? ⟨b2, off2, none⟩ = some (.string (mkB (S.getD 0 []))) := hc2
            have HN0 := Lib.hid hn0; have HZ := Lib.hid hz
            have hm1 : 0 < m := by omega
            have hm2 : (0 : Int) < (m : Int) := by omega
            clear hn0 hl0 hz hbl2
            rw [HSN.out] at SM ⊢
            go_wp2
            clear hc2
            go_loopw [13, 14] (fun s i wr => ∃ k : Nat, k ≤ m ∧ i = .int .i64 k ∧ s = .string (mkB (bestK S k)) ∧ Hid ((S.take k).all okV = true) ∧ Hid (Below w2.heap.size w2 wr)) (fun _ i _ => m - (intOf i).toNat)
            case atStart => exact ⟨0, Nat.zero_le _, rfl, rfl, Lib.hid (by simp), Lib.hid (Below.refl _ _)⟩
            case round =>
              obtain ⟨k, hk, rfl, rfl, HO, HBR⟩ := hrel
              have BR := Lib.hid (below_step BM.out HBR.out)
              by_cases hlt : k < m
              · have hlt' : k < S.length := by rw [HSN.out]; exact hlt
                obtain ⟨b3, off3, ha3, hbl3, hc3⟩ := strs_at SM.out k hlt'
                injection ha3 with ha3
                injection ha3 with hb3 hof3
                subst hb3 hof3
                have hcell := (HBR.out.cell (p := ⟨b2, off2 + k, none⟩) hbl3).trans hc3
                have HQS : Hid ((mkB (S.getD k [])).size ≤ 1000000000) := Lib.hid (by rw [mkB_size]; exact S4.out _ (mem_getD hlt'))
                have HBS : Hid ((mkB (bestK S k)).size ≤ 1000000000) := Lib.hid (by rw [mkB_size]; exact S4.out _ (bestK_mem S k (by rw [HSN.out]; exact hk) HN0.out))
                have HMEM := Lib.hid (mem_getD hlt')
                have HTK := Lib.hid (fun (p : List UInt8 → Bool) (ht : (S.take k).all p = true) (hp : p (S.getD k []) = true) => all_take_succ hlt' ht hp)
                have HSTEP := Lib.hid (bestK_step S k hlt')
                have HBOK : Hid (okV (S.getD k []) = true → okV (bestK S k) = true) := Lib.hid (bestK_ok S k hlt' HO.out)
                obtain ⟨best, hbest⟩ : ∃ best, bestK S k = best := ⟨_, rfl⟩
                obtain ⟨q, hq⟩ : ∃ q, S.getD k [] = q := ⟨_, rfl⟩
                rw [hbest] at HBS HSTEP HBOK ⊢
                rw [hq] at hcell HQS HMEM HTK HSTEP HBOK
                obtain ⟨o, ho⟩ : ∃ o, okV q = o := ⟨_, rfl⟩
                have HOQ := Lib.hid ho
                clear hlt' hc3 hbl3 hbest hq ho
                cases o
                · have hR : R1 = [] ∧ R2 = 1 := by
                    have h := HM.out
                    rw [maxE_no HN0.out (by rw [List.all_eq_false]; exact ⟨q, HMEM.out, by rw [HOQ.out]; simp⟩)] at h
                    simp only [Prod.mk.injEq] at h
                    exact ⟨h.1.symm, h.2.symm⟩
                  have hMe : M.toList.isEmpty = true := by rw [← HMM.out, hR.1, empty_iff, mkB_size]; rfl
                  have hR2 : R2 = 1 := hR.2
                  have hr0 : (R2 == 1) = true := by rw [hR2]; rfl
                  clear hR hR2
                  go_wp2_with (first
                    | (go_at_call 20; refine (refvmay_any _ _ HQS.out).mono ?_; rintro e w3 ⟨rfl, hb3⟩; rw [mkB_list, HOQ.out]; have BG := Lib.hid (below_step BR.out hb3); clear hb3)
                    | (go_at_call 18; refine (awake3_any _).mono ?_; rintro e w9 ⟨rfl, hb9⟩; have B9 := Lib.hid (below_step BG.out hb9); clear hb9))
                  go_ret
                  exact ⟨rfl, B9.out⟩
                · obtain ⟨T2, hT2⟩ : ∃ T, cmpT q best = T := ⟨_, rfl⟩
                  have hst := HSTEP.out
                  rw [hT2] at hst
                  have HST2 := Lib.hid hst; have HT2 := Lib.hid hT2
                  have HBO : Hid (okV best = true) := Lib.hid (HBOK.out HOQ.out)
                  clear hst hT2 HSTEP HBOK
                  by_cases htp : 0 < T2
                  all_goals
                    have HTP := Lib.hid htp
                    go_wp2_with (first
                      | (go_at_call 20; refine (refvmay_any _ _ HQS.out).mono ?_; rintro e w3 ⟨rfl, hb3⟩; rw [mkB_list, HOQ.out]; have h3 := (HBR.out.trans (hb3.mono HBR.out.size)); have hcell3 := cell_keep hcell hb3; have BG := Lib.hid h3; clear hb3 h3)
                      | (go_at_call 21; refine (refvcmp_any _ _ _ HQS.out HBS.out (by rw [mkB_list]; exact HOQ.out) (by rw [mkB_list]; exact HBO.out)).mono ?_; rintro e w4 ⟨rfl, hb4⟩; rw [mkB_list, mkB_list, HT2.out]; have hcell4 := cell_keep hcell3 hb4; have BH := Lib.hid (BG.out.trans (hb4.mono BG.out.size)); clear hb4))
                    go_roundw
                    case rel => exact ⟨k + 1, by omega, by go_num, by rw [HST2.out]; first | rw [if_pos HTP.out] | rw [if_neg (by have := HTP.out; omega)], Lib.hid (HTK.out okV HO.out HOQ.out), BH⟩
                    case measure => simp [intOf]; omega
              · have hall : S.all okV = true := by have h5 := HO.out; rw [List.take_of_length_le (by rw [HSN.out]; omega)] at h5; exact h5
                have hkm : k = m := by omega
                have hR : R1 = bestK S k ∧ R2 = 0 := by
                  have h := HM.out
                  rw [maxE_K S HN0.out hall, HSN.out, ← hkm] at h
                  simp only [Prod.mk.injEq] at h
                  refine ⟨?_, h.2.symm⟩
                  rw [← h.1]; unfold bestK; rw [if_neg (by have := HZ.out; omega)]
                have hMe : (M.toList == (mkB (bestK S k)).toList) = true := by rw [← HMM.out, mk_beq, hR.1]; simp
                have hR2 : R2 = 0 := hR.2
                have hr0 : (R2 == 0) = true := by rw [hR2]; rfl
                clear hall hkm hR hR2
                go_wp2_with (go_at_call 18; refine (awake3_any _).mono ?_; rintro e w9 ⟨rfl, hb9⟩; have B9 := Lib.hid (below_step BR.out hb9); clear hb9)
                go_ret
                exact ⟨rfl, B9.out⟩
      · have hout : acc = S := by
          rw [HACC.out, ← HS.out, List.take_of_length_le (by rw [HN.out]; omega), List.take_of_length_le (by rw [HN.out]; omega)]
        obtain ⟨ao, co, rfl, hso, _⟩ := strsO hown
        rw [hout] at hso ⊢
        have ST := Lib.hid hso
        have BF := Lib.hid (below_step BL.out HBR.out)
        clear hout hown hal hso HACC HBR hkn hk8
        go_upto_region 14 with (go_at_call 22; refine (max_any _ S _ ST.out S4.out).mono ?_; rintro e w2 ⟨rfl, hb2⟩; rw [HM.out]; have BM := Lib.hid (below_step BF.out hb2); have SM := Lib.hid (ST.out.below hb2); clear hb2)
        clear ST BF
        obtain ⟨M, hM⟩ : ∃ M, mkB R1 = M := ⟨_, rfl⟩
        rw [hM]
        have HMM := Lib.hid hM; clear hM
        by_cases hz : m = 0
        · have hS0 : S = [] := List.eq_nil_of_length_eq_zero (by rw [HSN.out, hz])
          have hR : R1 = [] ∧ R2 = 2 := by have h := HM.out; rw [hS0] at h; simp only [maxE, Prod.mk.injEq] at h; exact ⟨h.1.symm, h.2.symm⟩
          have hMe : M.toList.isEmpty = true := by rw [← HMM.out, hR.1, empty_iff, mkB_size]; rfl
          have hR2 : R2 = 2 := hR.2
          have hm0 : ((m : Int) == 0) = true := by rw [hz]; rfl
          have hr0 : (R2 == 2) = true := by rw [hR2]; rfl
          clear hS0 hR hR2 hz
          rw [HSN.out]
          go_wp2_with (go_at_call 18; refine (awake3_any _).mono ?_; rintro e w9 ⟨rfl, hb9⟩; have B9 := Lib.hid (below_step BM.out hb9); clear hb9)
          go_ret
          exact ⟨rfl, B9.out⟩
        · have hm0 : ((m : Int) == 0) = false := by rw [beq_eq_false_iff_ne]; omega
          have hn0 : S ≠ [] := fun e => hz (by rw [← HSN.out, e]; rfl)
          have hl0 : 0 < S.length := by rw [HSN.out]; omega
          obtain ⟨b2, off2, ha2, hbl2, hc2⟩ := strs_at SM.out 0 hl0
          subst ha2
          replace hc2 : w2.cell? ⟨b2, off2, none⟩ = some (.string (mkB (S.getD 0 []))) := hc2
          have HN0 := Lib.hid hn0; have HZ := Lib.hid hz
          have hm1 : 0 < m := by omega
          have hm2 : (0 : Int) < (m : Int) := by omega
          clear hn0 hl0 hz hbl2
          rw [HSN.out] at SM ⊢
          go_wp2
          clear hc2
          go_loopw [13, 14] (fun s i wr => ∃ k : Nat, k ≤ m ∧ i = .int .i64 k ∧ s = .string (mkB (bestK S k)) ∧ Hid ((S.take k).all okV = true) ∧ Hid (Below w2.heap.size w2 wr)) (fun _ i _ => m - (intOf i).toNat)
          case atStart => exact ⟨0, Nat.zero_le _, rfl, rfl, Lib.hid (by simp), Lib.hid (Below.refl _ _)⟩
          case round =>
            obtain ⟨k, hk, rfl, rfl, HO, HBR⟩ := hrel
            have BR := Lib.hid (below_step BM.out HBR.out)
            by_cases hlt : k < m
            · have hlt' : k < S.length := by rw [HSN.out]; exact hlt
              obtain ⟨b3, off3, ha3, hbl3, hc3⟩ := strs_at SM.out k hlt'
              injection ha3 with ha3
              injection ha3 with hb3 hof3
              subst hb3 hof3
              have hcell := (HBR.out.cell (p := ⟨b2, off2 + k, none⟩) hbl3).trans hc3
              have HQS : Hid ((mkB (S.getD k [])).size ≤ 1000000000) := Lib.hid (by rw [mkB_size]; exact S4.out _ (mem_getD hlt'))
              have HBS : Hid ((mkB (bestK S k)).size ≤ 1000000000) := Lib.hid (by rw [mkB_size]; exact S4.out _ (bestK_mem S k (by rw [HSN.out]; exact hk) HN0.out))
              have HMEM := Lib.hid (mem_getD hlt')
              have HTK := Lib.hid (fun (p : List UInt8 → Bool) (ht : (S.take k).all p = true) (hp : p (S.getD k []) = true) => all_take_succ hlt' ht hp)
              have HSTEP := Lib.hid (bestK_step S k hlt')
              have HBOK : Hid (okV (S.getD k []) = true → okV (bestK S k) = true) := Lib.hid (bestK_ok S k hlt' HO.out)
              obtain ⟨best, hbest⟩ : ∃ best, bestK S k = best := ⟨_, rfl⟩
              obtain ⟨q, hq⟩ : ∃ q, S.getD k [] = q := ⟨_, rfl⟩
              rw [hbest] at HBS HSTEP HBOK ⊢
              rw [hq] at hcell HQS HMEM HTK HSTEP HBOK
              obtain ⟨o, ho⟩ : ∃ o, okV q = o := ⟨_, rfl⟩
              have HOQ := Lib.hid ho
              clear hlt' hc3 hbl3 hbest hq ho
              cases o
              · have hR : R1 = [] ∧ R2 = 1 := by
                  have h := HM.out
                  rw [maxE_no HN0.out (by rw [List.all_eq_false]; exact ⟨q, HMEM.out, by rw [HOQ.out]; simp⟩)] at h
                  simp only [Prod.mk.injEq] at h
                  exact ⟨h.1.symm, h.2.symm⟩
                have hMe : M.toList.isEmpty = true := by rw [← HMM.out, hR.1, empty_iff, mkB_size]; rfl
                have hR2 : R2 = 1 := hR.2
                have hr0 : (R2 == 1) = true := by rw [hR2]; rfl
                clear hR hR2
                go_wp2_with (first
                  | (go_at_call 20; refine (refvmay_any _ _ HQS.out).mono ?_; rintro e w3 ⟨rfl, hb3⟩; rw [mkB_list, HOQ.out]; have BG := Lib.hid (below_step BR.out hb3); clear hb3)
                  | (go_at_call 18; refine (awake3_any _).mono ?_; rintro e w9 ⟨rfl, hb9⟩; have B9 := Lib.hid (below_step BG.out hb9); clear hb9))
                go_ret
                exact ⟨rfl, B9.out⟩
              · obtain ⟨T2, hT2⟩ : ∃ T, cmpT q best = T := ⟨_, rfl⟩
                have hst := HSTEP.out
                rw [hT2] at hst
                have HST2 := Lib.hid hst; have HT2 := Lib.hid hT2
                have HBO : Hid (okV best = true) := Lib.hid (HBOK.out HOQ.out)
                clear hst hT2 HSTEP HBOK
                by_cases htp : 0 < T2
                all_goals
                  have HTP := Lib.hid htp
                  go_wp2_with (first
                    | (go_at_call 20; refine (refvmay_any _ _ HQS.out).mono ?_; rintro e w3 ⟨rfl, hb3⟩; rw [mkB_list, HOQ.out]; have h3 := (HBR.out.trans (hb3.mono HBR.out.size)); have hcell3 := cell_keep hcell hb3; have BG := Lib.hid h3; clear hb3 h3)
                    | (go_at_call 21; refine (refvcmp_any _ _ _ HQS.out HBS.out (by rw [mkB_list]; exact HOQ.out) (by rw [mkB_list]; exact HBO.out)).mono ?_; rintro e w4 ⟨rfl, hb4⟩; rw [mkB_list, mkB_list, HT2.out]; have hcell4 := cell_keep hcell3 hb4; have BH := Lib.hid (BG.out.trans (hb4.mono BG.out.size)); clear hb4))
                  go_roundw
                  case rel => exact ⟨k + 1, by omega, by go_num, by rw [HST2.out]; first | rw [if_pos HTP.out] | rw [if_neg (by have := HTP.out; omega)], Lib.hid (HTK.out okV HO.out HOQ.out), BH⟩
                  case measure => simp [intOf]; omega
            · have hall : S.all okV = true := by have h5 := HO.out; rw [List.take_of_length_le (by rw [HSN.out]; omega)] at h5; exact h5
              have hkm : k = m := by omega
              have hR : R1 = bestK S k ∧ R2 = 0 := by
                have h := HM.out
                rw [maxE_K S HN0.out hall, HSN.out, ← hkm] at h
                simp only [Prod.mk.injEq] at h
                refine ⟨?_, h.2.symm⟩
                rw [← h.1]; unfold bestK; rw [if_neg (by have := HZ.out; omega)]
              have hMe : (M.toList == (mkB (bestK S k)).toList) = true := by rw [← HMM.out, mk_beq, hR.1]; simp
              have hR2 : R2 = 0 := hR.2
              have hr0 : (R2 == 0) = true := by rw [hR2]; rfl
              clear hall hkm hR hR2
              go_wp2_with (go_at_call 18; refine (awake3_any _).mono ?_; rintro e w9 ⟨rfl, hb9⟩; have B9 := Lib.hid (below_step BR.out hb9); clear hb9)
              go_ret
              exact ⟨rfl, B9.out⟩

theorem own : ownKnob Try.prog.godebug = none := by kernel_rfl
theorem laidOut : laidOutB Try.prog = true := by kernel_rfl

set_option maxRecDepth 100000 in
theorem lifted (os : Os) (started : os.Started) (H : Type) (enc : TypeId × Value → H) :
    ReturnsInHanded {} Try.checked os 4 .any (Rows.versionOrdersSpec.pre6 enc Try.prog Try.f4 Rows.versionOrdersRow.domain false) (Rows.versionOrdersSpec.post enc Try.prog Try.f4 false true false false) := by
  refine returnsInHanded_of_change (C := Try.checked) own started (by kernel_rfl) Try.func4
    (ChangeSpec.witness6 (enc := enc) (C := Try.checked) false ⟨#[], #[.string ByteArray.empty, .string ByteArray.empty, .slice none 0 0], []⟩ 8 (by kernel_rfl) (by kernel_rfl) (by kernel_rfl) (by kernel_rfl)) ?_
  intro W base args ds gs before hval0 hW hcnd _
  have hval : ∀ (j : Nat) t v, Try.f4.params[j]? = some t → args[j]? = some v → Value.okWide Try.prog W .any base t v := hval0
  have hW' := hW
  obtain ⟨p, q, hA0, hV, rfl, hfz, hnd⟩ := hW
  have hA : DataW.TrodAll enc Try.prog W 0 (fun _ => true) true Try.f4.params.toList args.toList ds p := hA0
  rw [Try.params4] at hA hval
  obtain ⟨v0, vs0, d0, ds0, p0, q0, hargs, rfl, rfl, h0, r0⟩ := trodAll_cons hA
  obtain ⟨v1, vs1, d1, ds1, p1, q1, rfl, rfl, rfl, h1, r1⟩ := trodAll_cons r0
  obtain ⟨v2, vs2, d2, ds2, p2, q2, rfl, rfl, rfl, h2, r2⟩ := trodAll_cons r1
  obtain ⟨rfl, rfl, rfl⟩ := trodAll_nil r2
  obtain rfl : args = #[v0, v1, v2] := by cases args; simp_all
  obtain ⟨rfl, rfl⟩ := trodVars_none hV
  obtain ⟨a0, rfl, rfl, rfl, w0⟩ := open_string Try.underlying9 (hval 0 9 v0 rfl rfl) h0
  obtain ⟨a1, rfl, rfl, rfl, w1⟩ := open_string Try.underlying9 (hval 1 9 v1 rfl rfl) h1
  obtain ⟨a2, len2, cap2, rfl⟩ := okWide_slice Try.underlying22 (hval 2 22 v2 rfl rfl)
  have k2 := h2
  have lt2 : ∀ x ∈ p2, x.block < W.heap.size := by obtain ⟨m, hm⟩ := k2; exact DataW.trod_lt m _ _ _ hm
  obtain ⟨z2, w2⟩ : ∃ zs, Strs W (.slice a2 len2 cap2) zs ∧ ∀ l ∈ zs, l.length ≤ maxLen := by
    obtain ⟨fuel, hf⟩ := h2
    exact strs_open (by simpa [Value.cells] using hf)
  clear hA0 hval0
  refine (walk a0 a1 _ z2 W w0 w1 w2).mono fun e W' ⟨he, bel⟩ => ?_
  subst he
  exact ⟨_, rfl, _, _, _, [], _, [], hW', trodAll_mk1 (shut_bool Try.underlying4 _), (trodAll_cons_mk (shut_string Try.underlying9 w0) (trodAll_cons_mk (shut_string Try.underlying9 w1) (trodAll_cons_mk (Below.trod laidOut (by kernel_rfl) (of_decide_eq_true (by kernel_rfl)) k2 bel lt2) trodAll_mk0))), rfl, bel.frame _, fun h => by cases h⟩

-- the given statement
theorem proved : Rows.VersionOrdersSaid :=
  OpenClaim.holds_of_wide 4 Try.f4 rfl rfl rfl rfl rfl rfl rfl ⟨rfl, rfl, rfl, rfl, rfl⟩ rfl rfl rfl rfl rfl (by kernel_rfl) Try.func4 (by kernel_rfl)
    (of_decide_eq_true (by kernel_rfl)) (by unfold Func.isWrapper; first | (rw [if_pos (by decide +kernel)]; kernel_rfl) | (rw [if_neg (by decide +kernel)]; exact ⟨rfl, rfl⟩))
    (fun os started H enc _ => lifted os started H enc)
end Go.Proofs.Ytcdflfjbdbofcaa.versionOrders
