/- For every list of texts (no longer than is looked at): the last one is one of them, none comes behind it, and it is the same in the other order; no condition. -/
import Derived.Test.YtcdflfjbdbofcaaRows
import Derived.Test.YtcdflfjbdbofcaaVerR
import Derived.Test.YtcdflfjbdbofcaaVerT
import Derived.Deep.CutRange
import Derived.Deep.DeepCutAuto
import Derived.ProofKit
import Derived.OpenShut
import Derived.ShutString
import Derived.ChangeOld
namespace Go.Proofs.Ytcdflfjbdbofcaa.versionMost
open Go.ChangeShapes Go.WideShapes Go.ChangeAt Go.RowKit
open Go.ChangeMaps (open_string shut_string)
set_option linter.unusedVariables false

theorem maxE_facts {S : List (List UInt8)} {R1 : List UInt8} {R2 : Int} (h : maxE S = (R1, R2)) (h0 : R2 = 0) : S ≠ [] ∧ S.all okV = true ∧ R1 ∈ S ∧ ∀ s ∈ S, cmpT s R1 ≤ 0 := by
  subst h0
  by_cases hn : S = []
  · subst hn; simp [maxE] at h
  · cases ha : S.all okV
    · rw [maxE_no hn ha] at h; simp at h
    · obtain ⟨m, hm, h1, h2⟩ := maxE_ok hn ha
      rw [hm] at h
      injection h with h _
      subst h
      exact ⟨hn, rfl, h1, h2⟩
set_option maxRecDepth 100000 in
set_option maxHeartbeats 3200000 in
theorem walk (V : Value) (ls : List (List UInt8)) (w : World) (hl : Strs w V ls ∧ ∀ l ∈ ls, l.length ≤ maxLen) :
    Calls Try.prog 9 #[V] w fun e w' => e = .returned (.bool true) ∧ Below w.heap.size w w' := by
  obtain ⟨hst, hs5⟩ := hl
  obtain ⟨al, cl, rfl, _, hcl, _, _⟩ := hst.ex
  obtain ⟨n, hn⟩ : ∃ n, ls.length = n := ⟨_, rfl⟩
  have hnm : n ≤ 9223372036854775807 := by
    obtain ⟨a', c', hv, h1, h2, _⟩ := hst.ex
    injection hv with _ h3 _
    unfold maxLen at h2
    omega
  rw [hn] at hst ⊢
  obtain ⟨S, hS⟩ : ∃ S, (ls.take 12).map fewL = S := ⟨_, rfl⟩
  have S4 : Hid (∀ l ∈ S, l.length ≤ 1000000000) := Lib.hid (fun l hl => by rw [← hS] at hl; obtain ⟨q, _, rfl⟩ := List.mem_map.1 hl; have := fewL_le q; omega)
  obtain ⟨m, hm⟩ : ∃ m, S.length = m := ⟨_, rfl⟩
  obtain ⟨R1, R2, hM⟩ : ∃ r1 r2, maxE S = (r1, r2) := ⟨_, _, rfl⟩
  have hmm : m ≤ 12 := by rw [← hm, ← hS, List.length_map]; exact List.length_take_le _ _
  have HST := Lib.hid hst; have S5 := Lib.hid hs5; have HN := Lib.hid hn; have HS := Lib.hid hS; have HSN := Lib.hid hm; have HM := Lib.hid hM; have HMM := Lib.hid hmm
  clear hst hs5 hn hS hm hM hcl hmm
  have BL := Lib.hid (Below.refl w.heap.size w)
  go_enter Try.func9, Try.ntmps9
  go_wp2
  go_loopw [3, 5] (fun v i wr => ∃ (k : Nat) (acc : List (List UInt8)), k ≤ n ∧ k ≤ 12 ∧ i = .int .i64 k ∧ acc.length = k ∧ Hid (acc = (ls.take k).map fewL) ∧ wr.ownsRow w.heap.size 9 1 v acc.length (acc.map strV) ∧ Hid (Below w.heap.size w wr)) (fun _ i _ => n - (intOf i).toNat)
  case atStart => exact ⟨0, [], Nat.zero_le _, Nat.zero_le _, rfl, rfl, Lib.hid (by simp), World.ownsRow_nil _ _ _ _, Lib.hid (Below.refl _ _)⟩
  case round =>
    obtain ⟨k, acc, hkn, hk8, rfl, hal, HACC, hown, HBR⟩ := hrel
    by_cases hlt : k < n
    · by_cases h8 : k < 12
      · have hlt' : k < ls.length := by rw [HN.out]; exact hlt
        obtain ⟨b1, off1, ha1, hbl, hc⟩ := strs_at HST.out k hlt'
        subst ha1
        have hcell := (HBR.out.cell (p := ⟨b1, off1 + k, none⟩) (Nat.lt_of_lt_of_le hbl BL.out.size)).trans ((BL.out.cell (p := ⟨b1, off1 + k, none⟩) hbl).trans hc)
        have HQ : Hid ((ls.getD k []).length ≤ maxLen) := Lib.hid (S5.out _ (mem_getD hlt'))
        have hsucc : (ls.take (k + 1)).map fewL = (ls.take k).map fewL ++ [fewL (ls.getD k [])] := by
          rw [List.take_succ_eq_append_getElem hlt', List.map_append, List.getD_eq_getElem?_getD, List.getElem?_eq_getElem hlt']; rfl
        obtain ⟨q, hq⟩ : ∃ q, ls.getD k [] = q := ⟨_, rfl⟩
        rw [hq] at hcell HQ hsucc
        have HSUCC := Lib.hid hsucc
        have HAL := Lib.hid hal; have HOWN := Lib.hid hown
        clear hc hbl hq hlt' hsucc hal hown
        go_wp2_with (first
          | (go_at_call 10; refine (few_l _ _ HQ.out).mono ?_; rintro e w' ⟨rfl, rfl⟩)
          | (at_builtin; refine wpList_append_new rfl _ _ 22 rfl w.heap.size 9 (.string ByteArray.empty) 1 16 Try.underlying22 Try.info_str rfl (by decide) _ _ _ rfl HOWN.out [.string (mkB (fewL q))] rfl rfl rfl (by have := HAL.out; omega) (by have := HAL.out; unfold maxLen; omega) HBR.out.size ?_))
        intro v' w' hown' hb'
        have ho2 : w'.ownsRow w.heap.size 9 1 v' (acc ++ [fewL q]).length ((acc ++ [fewL q]).map strV) := by
          rw [List.length_append, List.map_append]; exact hown'
        have HO := Lib.hid ho2; clear ho2 hown'
        have HB2 := Lib.hid (HBR.out.trans hb')
        clear hb'
        go_wp2
        go_roundw
        case rel => exact ⟨k + 1, acc ++ [fewL q], by omega, by omega, by go_num, by rw [List.length_append, HAL.out]; rfl, Lib.hid (by rw [HSUCC.out, HACC.out]), HO.out, HB2⟩
        case measure => simp [intOf]; omega
      · have hout : acc = S := by
          rw [HACC.out, ← HS.out]
          have : k = 12 := by omega
          rw [this]
        obtain ⟨ao, co, rfl, hso, _⟩ := strsO hown
        rw [hout] at hso ⊢
        have ST := Lib.hid hso
        have BF := Lib.hid (below_step BL.out HBR.out)
        clear hout hown hal hso HACC HBR hkn hk8
        have hm63 : m ≤ 12 := HMM.out
        rw [HSN.out] at ST ⊢
        obtain ⟨WW, hWW⟩ : ∃ W : World, W = wr := ⟨_, rfl⟩
        rw [← hWW] at ST BF ⊢
        clear hWW
        go_wp2
        go_loopw [4, 6] (fun v i wr => ∃ (k : Nat) (acc : List (List UInt8)), k ≤ m ∧ ((k = 0 ∧ i = .int .i64 (-1)) ∨ ∃ j : Nat, k = j + 1 ∧ i = .int .i64 j) ∧ acc.length = m - k ∧ Hid (acc = (S.drop k).reverse) ∧ wr.ownsRow WW.heap.size 9 1 v acc.length (acc.map strV) ∧ Hid (Below WW.heap.size WW wr)) (fun _ i _ => (intOf i + 1).toNat)
        case atStart => exact ⟨m, [], Nat.le_refl _, (by rcases Nat.eq_zero_or_pos m with e | e; exact .inl ⟨e, by subst e; rfl⟩; exact .inr ⟨m - 1, by omega, by congr 1; omega⟩), by simp, Lib.hid (by rw [List.drop_eq_nil_of_le (by rw [HSN.out]; exact Nat.le_refl _)]; rfl), World.ownsRow_nil _ _ _ _, Lib.hid (Below.refl _ _)⟩
        case round =>
          obtain ⟨k2, acc2, hk2, hcase, hal2, HACC2, hown2, HB2⟩ := hrel
          rcases hcase with ⟨rfl, rfl⟩ | ⟨j, rfl, rfl⟩
          · have hrev : acc2 = S.reverse := by rw [HACC2.out, List.drop_zero]
            obtain ⟨ab, cb, rfl, hsb, _⟩ := strsO hown2
            rw [hrev] at hsb ⊢
            obtain ⟨SR, hSR⟩ : ∃ SR, S.reverse = SR := ⟨_, rfl⟩
            have hSL : SR.length = m := by rw [← hSR, List.length_reverse]; exact HSN.out
            rw [hSR] at hsb ⊢
            rw [hSL] at hsb ⊢
            have STB := Lib.hid hsb; have HSR := Lib.hid hSR
            have ST1 := Lib.hid (ST.out.below HB2.out)
            have BF2 := Lib.hid (below_step BF.out HB2.out)
            have S4r : Hid (∀ l ∈ SR, l.length ≤ 1000000000) := Lib.hid (fun l hl => S4.out l (by rw [← HSR.out] at hl; simpa using hl))
            clear hSR hSL hrev hown2 hal2 hsb HACC2 HB2 hk2 ST BF
            go_upto_region 11 with (go_at_call 22; refine (max_any _ S _ ST1.out S4.out).mono ?_; rintro e w2 ⟨rfl, hb2⟩; rw [HM.out]; have BM1 := Lib.hid (below_step BF2.out hb2); have ST2 := Lib.hid (ST1.out.below hb2); have STB2 := Lib.hid (STB.out.below hb2); clear hb2)
            clear ST1 STB BF2
            go_upto_region 12 with (go_at_call 22; refine (max_any _ SR _ STB2.out S4r.out).mono ?_; rintro e w3 ⟨rfl, hb3⟩; rw [← HSR.out, maxE_rev, HM.out]; have BM := Lib.hid (below_step BM1.out hb3); replace ST2 := Lib.hid (ST2.out.below hb3); clear hb3)
            clear BM1 STB2
            by_cases hR : R2 = 0
            · have hk1 := maxE_facts HM.out hR
              obtain ⟨hne, hall, hmem, htop⟩ := hk1
              have HNE := Lib.hid hne; have HALL := Lib.hid hall; have HMEM := Lib.hid hmem; have HTOP := Lib.hid htop
              have HRS : Hid ((mkB R1).size ≤ 1000000000) := Lib.hid (by rw [mkB_size]; exact S4.out _ hmem)
              have HROK : Hid (okV R1 = true) := Lib.hid (List.all_eq_true.1 hall _ hmem)
              subst hR
              clear hne hall hmem htop
              go_wp2
              go_loopw [11, 12] (fun b i wr => ∃ k : Nat, k ≤ m ∧ i = .int .i64 k ∧ b = .bool (decide (R1 ∈ S.take k)) ∧ Hid (Strs wr (.slice ao m co) S) ∧ Hid (Below w.heap.size w wr)) (fun _ i _ => m - (intOf i).toNat)
              case atStart => exact ⟨0, Nat.zero_le _, rfl, by simp, ST2, BM⟩
              case round =>
                obtain ⟨k, hk, rfl, rfl, STR, BR⟩ := hrel
                obtain ⟨mt, hmt⟩ : ∃ b, decide (R1 ∈ S.take k) = b := ⟨_, rfl⟩
                rw [hmt]
                have HMT := Lib.hid hmt; clear hmt
                by_cases hlt : k < m
                · have hlt' : k < S.length := by rw [HSN.out]; exact hlt
                  obtain ⟨b3, off3, rfl, hbl3, hcell⟩ := strs_at STR.out k hlt'
                  have hmemq := mem_getD hlt'
                  have HQS : Hid ((mkB (S.getD k [])).size ≤ 1000000000) := Lib.hid (by rw [mkB_size]; exact S4.out _ hmemq)
                  have hqok : okV (S.getD k []) = true := List.all_eq_true.1 HALL.out _ hmemq
                  have hqt := HTOP.out _ hmemq
                  have hsucc : decide (R1 ∈ S.take (k + 1)) = (decide (R1 ∈ S.take k) || decide (S.getD k [] = R1)) := by
                    have e : S.take (k + 1) = S.take k ++ [S.getD k []] := by
                      rw [List.take_succ_eq_append_getElem hlt', List.getD_eq_getElem?_getD, List.getElem?_eq_getElem hlt']; rfl
                    rw [e, Bool.eq_iff_iff]
                    simp only [decide_eq_true_eq, Bool.or_eq_true, List.mem_append, List.mem_singleton]
                    exact ⟨fun h => h.elim .inl (fun h => .inr h.symm), fun h => h.elim .inl (fun h => .inr h.symm)⟩
                  rw [HMT.out] at hsucc
                  obtain ⟨q, hq⟩ : ∃ q, S.getD k [] = q := ⟨_, rfl⟩
                  rw [hq] at hcell HQS hqok hqt hsucc
                  obtain ⟨C, hC⟩ : ∃ C, cmpT q R1 = C := ⟨_, rfl⟩
                  have hce : vcmpE q R1 = (C, 0) := by rw [vcmpE_of hqok HROK.out, if_pos ⟨rfl, rfl⟩, hC]
                  rw [hC] at hqt
                  have hcp : ¬ 0 < C := by omega
                  have heq := mk_beq q R1
                  obtain ⟨bq, hbq⟩ : ∃ b, decide (q = R1) = b := ⟨_, rfl⟩
                  rw [hbq] at heq hsucc
                  have HCE := Lib.hid hce; have HSUCC := Lib.hid hsucc
                  clear hlt' hbl3 hmemq hqok hq hC hce hsucc hbq
                  cases mt <;> cases bq
                  all_goals
                    go_wp2_with (go_at_call 19; refine (vcmp_any _ _ _ HQS.out HRS.out).mono ?_; rintro e w4 ⟨rfl, hb4⟩; rw [mkB_list, mkB_list, HCE.out]; have BR4 := Lib.hid (below_step BR.out hb4); have STR4 := Lib.hid (STR.out.below hb4); have hcell4 := cell_keep hcell hb4; clear hb4)
                    go_roundw
                    case rel => exact ⟨k + 1, by omega, by go_num, by rw [HSUCC.out]; rfl, STR4, BR4⟩
                    case measure => simp [intOf]; omega
                · have hfin : mt = true := by
                    rw [← HMT.out, List.take_of_length_le (by rw [HSN.out]; omega)]
                    exact decide_eq_true HMEM.out
                  subst hfin
                  go_wp2_with (go_at_call 18; refine (awake3_any _).mono ?_; rintro e w9 ⟨rfl, hb9⟩; have B9 := Lib.hid (below_step BR.out hb9); clear hb9)
                  go_ret
                  exact ⟨rfl, B9.out⟩
            · have hr0 : (R2 != 0) = true := by simpa using hR
              clear hR
              go_wp2_with (go_at_call 18; refine (awake3_any _).mono ?_; rintro e w9 ⟨rfl, hb9⟩; have B9 := Lib.hid (below_step BM.out hb9); clear hb9)
              go_ret
              exact ⟨rfl, B9.out⟩
          · have hj : j < m := by omega
            have hj' : j < S.length := by rw [HSN.out]; exact hj
            obtain ⟨b3, off3, rfl, hbl3, hc3⟩ := strs_at ST.out j hj'
            have hcell := (HB2.out.cell (p := ⟨b3, off3 + j, none⟩) hbl3).trans hc3
            have hdrop : (S.drop j).reverse = (S.drop (j + 1)).reverse ++ [S.getD j []] := by
              rw [List.drop_eq_getElem_cons hj', List.reverse_cons, List.getD_eq_getElem?_getD, List.getElem?_eq_getElem hj']; rfl
            obtain ⟨q, hq⟩ : ∃ q, S.getD j [] = q := ⟨_, rfl⟩
            rw [hq] at hcell hdrop
            have HD := Lib.hid hdrop; have HAL := Lib.hid hal2; have HOWN := Lib.hid hown2
            clear hj' hbl3 hc3 hdrop hq hal2 hown2
            go_wp2_with (at_builtin; refine wpList_append_new rfl _ _ 22 rfl WW.heap.size 9 (.string ByteArray.empty) 1 16 Try.underlying22 Try.info_str rfl (by decide) _ _ _ rfl HOWN.out [.string (mkB q)] rfl rfl rfl (by have := HAL.out; omega) (by have := HAL.out; unfold maxLen; omega) HB2.out.size ?_)
            intro v' w' hown' hb'
            have ho2 : w'.ownsRow WW.heap.size 9 1 v' (acc2 ++ [q]).length ((acc2 ++ [q]).map strV) := by
              rw [List.length_append, List.map_append]; exact hown'
            have HO := Lib.hid ho2; clear ho2 hown'
            have HB3 := Lib.hid (HB2.out.trans hb')
            clear hb'
            go_wp2
            go_roundw
            case rel => exact ⟨j, acc2 ++ [q], by omega, (by rcases Nat.eq_zero_or_pos j with e | e; exact .inl ⟨e, by subst e; rfl⟩; exact .inr ⟨j - 1, by omega, by congr 1; omega⟩), by rw [List.length_append, HAL.out]; simp; omega, Lib.hid (by rw [HD.out, HACC2.out]), HO.out, HB3⟩
            case measure => simp [intOf]
    · have hout : acc = S := by
        rw [HACC.out, ← HS.out, List.take_of_length_le (by rw [HN.out]; omega), List.take_of_length_le (by rw [HN.out]; omega)]
      obtain ⟨ao, co, rfl, hso, _⟩ := strsO hown
      rw [hout] at hso ⊢
      have ST := Lib.hid hso
      have BF := Lib.hid (below_step BL.out HBR.out)
      clear hout hown hal hso HACC HBR hkn hk8
      have hm63 : m ≤ 12 := HMM.out
      rw [HSN.out] at ST ⊢
      obtain ⟨WW, hWW⟩ : ∃ W : World, W = wr := ⟨_, rfl⟩
      rw [← hWW] at ST BF ⊢
      clear hWW
      go_wp2
      go_loopw [4, 6] (fun v i wr => ∃ (k : Nat) (acc : List (List UInt8)), k ≤ m ∧ ((k = 0 ∧ i = .int .i64 (-1)) ∨ ∃ j : Nat, k = j + 1 ∧ i = .int .i64 j) ∧ acc.length = m - k ∧ Hid (acc = (S.drop k).reverse) ∧ wr.ownsRow WW.heap.size 9 1 v acc.length (acc.map strV) ∧ Hid (Below WW.heap.size WW wr)) (fun _ i _ => (intOf i + 1).toNat)
      case atStart => exact ⟨m, [], Nat.le_refl _, (by rcases Nat.eq_zero_or_pos m with e | e; exact .inl ⟨e, by subst e; rfl⟩; exact .inr ⟨m - 1, by omega, by congr 1; omega⟩), by simp, Lib.hid (by rw [List.drop_eq_nil_of_le (by rw [HSN.out]; exact Nat.le_refl _)]; rfl), World.ownsRow_nil _ _ _ _, Lib.hid (Below.refl _ _)⟩
      case round =>
        obtain ⟨k2, acc2, hk2, hcase, hal2, HACC2, hown2, HB2⟩ := hrel
        rcases hcase with ⟨rfl, rfl⟩ | ⟨j, rfl, rfl⟩
        · have hrev : acc2 = S.reverse := by rw [HACC2.out, List.drop_zero]
          obtain ⟨ab, cb, rfl, hsb, _⟩ := strsO hown2
          rw [hrev] at hsb ⊢
          obtain ⟨SR, hSR⟩ : ∃ SR, S.reverse = SR := ⟨_, rfl⟩
          have hSL : SR.length = m := by rw [← hSR, List.length_reverse]; exact HSN.out
          rw [hSR] at hsb ⊢
          rw [hSL] at hsb ⊢
          have STB := Lib.hid hsb; have HSR := Lib.hid hSR
          have ST1 := Lib.hid (ST.out.below HB2.out)
          have BF2 := Lib.hid (below_step BF.out HB2.out)
          have S4r : Hid (∀ l ∈ SR, l.length ≤ 1000000000) := Lib.hid (fun l hl => S4.out l (by rw [← HSR.out] at hl; simpa using hl))
          clear hSR hSL hrev hown2 hal2 hsb HACC2 HB2 hk2 ST BF
          go_upto_region 11 with (go_at_call 22; refine (max_any _ S _ ST1.out S4.out).mono ?_; rintro e w2 ⟨rfl, hb2⟩; rw [HM.out]; have BM1 := Lib.hid (below_step BF2.out hb2); have ST2 := Lib.hid (ST1.out.below hb2); have STB2 := Lib.hid (STB.out.below hb2); clear hb2)
          clear ST1 STB BF2
          go_upto_region 12 with (go_at_call 22; refine (max_any _ SR _ STB2.out S4r.out).mono ?_; rintro e w3 ⟨rfl, hb3⟩; rw [← HSR.out, maxE_rev, HM.out]; have BM := Lib.hid (below_step BM1.out hb3); replace ST2 := Lib.hid (ST2.out.below hb3); clear hb3)
          clear BM1 STB2
          by_cases hR : R2 = 0
          · have hk1 := maxE_facts HM.out hR
            obtain ⟨hne, hall, hmem, htop⟩ := hk1
            have HNE := Lib.hid hne; have HALL := Lib.hid hall; have HMEM := Lib.hid hmem; have HTOP := Lib.hid htop
            have HRS : Hid ((mkB R1).size ≤ 1000000000) := Lib.hid (by rw [mkB_size]; exact S4.out _ hmem)
            have HROK : Hid (okV R1 = true) := Lib.hid (List.all_eq_true.1 hall _ hmem)
            subst hR
            clear hne hall hmem htop
            go_wp2
            go_loopw [11, 12] (fun b i wr => ∃ k : Nat, k ≤ m ∧ i = .int .i64 k ∧ b = .bool (decide (R1 ∈ S.take k)) ∧ Hid (Strs wr (.slice ao m co) S) ∧ Hid (Below w.heap.size w wr)) (fun _ i _ => m - (intOf i).toNat)
            case atStart => exact ⟨0, Nat.zero_le _, rfl, by simp, ST2, BM⟩
            case round =>
              obtain ⟨k, hk, rfl, rfl, STR, BR⟩ := hrel
              obtain ⟨mt, hmt⟩ : ∃ b, decide (R1 ∈ S.take k) = b := ⟨_, rfl⟩
              rw [hmt]
              have HMT := Lib.hid hmt; clear hmt
              by_cases hlt : k < m
              · have hlt' : k < S.length := by rw [HSN.out]; exact hlt
                obtain ⟨b3, off3, rfl, hbl3, hcell⟩ := strs_at STR.out k hlt'
                have hmemq := mem_getD hlt'
                have HQS : Hid ((mkB (S.getD k [])).size ≤ 1000000000) := Lib.hid (by rw [mkB_size]; exact S4.out _ hmemq)
                have hqok : okV (S.getD k []) = true := List.all_eq_true.1 HALL.out _ hmemq
                have hqt := HTOP.out _ hmemq
                have hsucc : decide (R1 ∈ S.take (k + 1)) = (decide (R1 ∈ S.take k) || decide (S.getD k [] = R1)) := by
                  have e : S.take (k + 1) = S.take k ++ [S.getD k []] := by
                    rw [List.take_succ_eq_append_getElem hlt', List.getD_eq_getElem?_getD, List.getElem?_eq_getElem hlt']; rfl
                  rw [e, Bool.eq_iff_iff]
                  simp only [decide_eq_true_eq, Bool.or_eq_true, List.mem_append, List.mem_singleton]
                  exact ⟨fun h => h.elim .inl (fun h => .inr h.symm), fun h => h.elim .inl (fun h => .inr h.symm)⟩
                rw [HMT.out] at hsucc
                obtain ⟨q, hq⟩ : ∃ q, S.getD k [] = q := ⟨_, rfl⟩
                rw [hq] at hcell HQS hqok hqt hsucc
                obtain ⟨C, hC⟩ : ∃ C, cmpT q R1 = C := ⟨_, rfl⟩
                have hce : vcmpE q R1 = (C, 0) := by rw [vcmpE_of hqok HROK.out, if_pos ⟨rfl, rfl⟩, hC]
                rw [hC] at hqt
                have hcp : ¬ 0 < C := by omega
                have heq := mk_beq q R1
                obtain ⟨bq, hbq⟩ : ∃ b, decide (q = R1) = b := ⟨_, rfl⟩
                rw [hbq] at heq hsucc
                have HCE := Lib.hid hce; have HSUCC := Lib.hid hsucc
                clear hlt' hbl3 hmemq hqok hq hC hce hsucc hbq
                cases mt <;> cases bq
                all_goals
                  go_wp2_with (go_at_call 19; refine (vcmp_any _ _ _ HQS.out HRS.out).mono ?_; rintro e w4 ⟨rfl, hb4⟩; rw [mkB_list, mkB_list, HCE.out]; have BR4 := Lib.hid (below_step BR.out hb4); have STR4 := Lib.hid (STR.out.below hb4); have hcell4 := cell_keep hcell hb4; clear hb4)
                  go_roundw
                  case rel => exact ⟨k + 1, by omega, by go_num, by rw [HSUCC.out]; rfl, STR4, BR4⟩
                  case measure => simp [intOf]; omega
              · have hfin : mt = true := by
                  rw [← HMT.out, List.take_of_length_le (by rw [HSN.out]; omega)]
                  exact decide_eq_true HMEM.out
                subst hfin
                go_wp2_with (go_at_call 18; refine (awake3_any _).mono ?_; rintro e w9 ⟨rfl, hb9⟩; have B9 := Lib.hid (below_step BR.out hb9); clear hb9)
                go_ret
                exact ⟨rfl, B9.out⟩
          · have hr0 : (R2 != 0) = true := by simpa using hR
            clear hR
            go_wp2_with (go_at_call 18; refine (awake3_any _).mono ?_; rintro e w9 ⟨rfl, hb9⟩; have B9 := Lib.hid (below_step BM.out hb9); clear hb9)
            go_ret
            exact ⟨rfl, B9.out⟩
        · have hj : j < m := by omega
          have hj' : j < S.length := by rw [HSN.out]; exact hj
          obtain ⟨b3, off3, rfl, hbl3, hc3⟩ := strs_at ST.out j hj'
          have hcell := (HB2.out.cell (p := ⟨b3, off3 + j, none⟩) hbl3).trans hc3
          have hdrop : (S.drop j).reverse = (S.drop (j + 1)).reverse ++ [S.getD j []] := by
            rw [List.drop_eq_getElem_cons hj', List.reverse_cons, List.getD_eq_getElem?_getD, List.getElem?_eq_getElem hj']; rfl
          obtain ⟨q, hq⟩ : ∃ q, S.getD j [] = q := ⟨_, rfl⟩
          rw [hq] at hcell hdrop
          have HD := Lib.hid hdrop; have HAL := Lib.hid hal2; have HOWN := Lib.hid hown2
          clear hj' hbl3 hc3 hdrop hq hal2 hown2
          go_wp2_with (at_builtin; refine wpList_append_new rfl _ _ 22 rfl WW.heap.size 9 (.string ByteArray.empty) 1 16 Try.underlying22 Try.info_str rfl (by decide) _ _ _ rfl HOWN.out [.string (mkB q)] rfl rfl rfl (by have := HAL.out; omega) (by have := HAL.out; unfold maxLen; omega) HB2.out.size ?_)
          intro v' w' hown' hb'
          have ho2 : w'.ownsRow WW.heap.size 9 1 v' (acc2 ++ [q]).length ((acc2 ++ [q]).map strV) := by
            rw [List.length_append, List.map_append]; exact hown'
          have HO := Lib.hid ho2; clear ho2 hown'
          have HB3 := Lib.hid (HB2.out.trans hb')
          clear hb'
          go_wp2
          go_roundw
          case rel => exact ⟨j, acc2 ++ [q], by omega, (by rcases Nat.eq_zero_or_pos j with e | e; exact .inl ⟨e, by subst e; rfl⟩; exact .inr ⟨j - 1, by omega, by congr 1; omega⟩), by rw [List.length_append, HAL.out]; simp; omega, Lib.hid (by rw [HD.out, HACC2.out]), HO.out, HB3⟩
          case measure => simp [intOf]

theorem own : ownKnob Try.prog.godebug = none := by kernel_rfl
theorem laidOut : laidOutB Try.prog = true := by kernel_rfl

set_option maxRecDepth 100000 in
theorem lifted (os : Os) (started : os.Started) (H : Type) (enc : TypeId × Value → H) :
    ReturnsInHanded {} Try.checked os 9 .any (Rows.versionMostSpec.pre6 enc Try.prog Try.f9 Rows.versionMostRow.domain false) (Rows.versionMostSpec.post enc Try.prog Try.f9 false true false false) := by
  refine returnsInHanded_of_change (C := Try.checked) own started (by kernel_rfl) Try.func9
    (ChangeSpec.witness6 (enc := enc) (C := Try.checked) false ⟨#[], #[.slice none 0 0], []⟩ 8 (by kernel_rfl) (by kernel_rfl) (by kernel_rfl) (by kernel_rfl)) ?_
  intro W base args ds gs before hval0 hW hcnd _
  have hval : ∀ (j : Nat) t v, Try.f9.params[j]? = some t → args[j]? = some v → Value.okWide Try.prog W .any base t v := hval0
  have hW' := hW
  obtain ⟨p, q, hA0, hV, rfl, hfz, hnd⟩ := hW
  have hA : DataW.TrodAll enc Try.prog W 0 (fun _ => true) true Try.f9.params.toList args.toList ds p := hA0
  rw [Try.params9] at hA hval
  obtain ⟨v0, vs0, d0, ds0, p0, q0, hargs, rfl, rfl, h0, r0⟩ := trodAll_cons hA
  obtain ⟨rfl, rfl, rfl⟩ := trodAll_nil r0
  obtain rfl : args = #[v0] := by cases args; simp_all
  obtain ⟨rfl, rfl⟩ := trodVars_none hV
  obtain ⟨a0, len0, cap0, rfl⟩ := okWide_slice Try.underlying22 (hval 0 22 v0 rfl rfl)
  have k0 := h0
  have lt0 : ∀ x ∈ p0, x.block < W.heap.size := by obtain ⟨m, hm⟩ := k0; exact DataW.trod_lt m _ _ _ hm
  obtain ⟨z0, w0⟩ : ∃ zs, Strs W (.slice a0 len0 cap0) zs ∧ ∀ l ∈ zs, l.length ≤ maxLen := by
    obtain ⟨fuel, hf⟩ := h0
    exact strs_open (by simpa [Value.cells] using hf)
  clear hA0 hval0
  refine (walk _ z0 W w0).mono fun e W' ⟨he, bel⟩ => ?_
  subst he
  exact ⟨_, rfl, _, _, _, [], _, [], hW', trodAll_mk1 (shut_bool Try.underlying4 _), (trodAll_cons_mk (Below.trod laidOut (by kernel_rfl) (of_decide_eq_true (by kernel_rfl)) k0 bel lt0) trodAll_mk0), rfl, bel.frame _, fun h => by cases h⟩

-- the given statement
theorem proved : Rows.VersionMostSaid :=
  OpenClaim.holds_of_wide 9 Try.f9 rfl rfl rfl rfl rfl rfl rfl ⟨rfl, rfl, rfl, rfl, rfl⟩ rfl rfl rfl rfl rfl (by kernel_rfl) Try.func9 (by kernel_rfl)
    (of_decide_eq_true (by kernel_rfl)) (by unfold Func.isWrapper; first | (rw [if_pos (by decide +kernel)]; kernel_rfl) | (rw [if_neg (by decide +kernel)]; exact ⟨rfl, rfl⟩))
    (fun os started H enc _ => lifted os started H enc)
end Go.Proofs.Ytcdflfjbdbofcaa.versionMost
