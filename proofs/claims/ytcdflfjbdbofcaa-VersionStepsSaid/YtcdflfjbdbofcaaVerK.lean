/- The document's Join. -/
import Derived.Test.YtcdflfjbdbofcaaVerJ
namespace Go.Proofs.Ytcdflfjbdbofcaa
open Go.RowKit

theorem joinL_step (ma mi pa : List UInt8) (pre : List (List UInt8)) (k : Nat) (h : k < pre.length) :
    joinL (ma, mi, pa, pre.take (k + 1)) = joinL (ma, mi, pa, pre.take k) ++ (if k = 0 then 45 else 46) :: pre.getD k [] := by
  have hne : pre.take (k + 1) ≠ [] := by
    intro e
    have := congrArg List.length e
    rw [List.length_take] at this
    simp only [List.length_nil] at this
    omega
  by_cases h0 : k = 0
  · subst h0
    rw [joinL_some _ _ _ _ hne, jn_zero 46 pre h, List.take_zero, joinL_none, if_pos rfl]
  · have hne' : pre.take k ≠ [] := by
      intro e
      have := congrArg List.length e
      rw [List.length_take] at this
      simp only [List.length_nil] at this
      omega
    rw [joinL_some _ _ _ _ hne, joinL_some _ _ _ _ hne', jn_succ 46 pre k (by omega) h, if_neg h0]
    simp
theorem joinL_take_le (ma mi pa : List UInt8) (pre : List (List UInt8)) (k : Nat) : (joinL (ma, mi, pa, pre.take k)).length ≤ (joinL (ma, mi, pa, pre)).length := by
  by_cases h0 : pre.take k = []
  · rw [h0, joinL_none]
    by_cases h1 : pre = []
    · rw [h1, joinL_none]; exact Nat.le_refl _
    · rw [joinL_some _ _ _ _ h1]; simp
  · have h1 : pre ≠ [] := fun e => h0 (by rw [e]; simp)
    rw [joinL_some _ _ _ _ h0, joinL_some _ _ _ _ h1]
    have := jn_le 46 pre k
    simp; omega
theorem put_txt (l q : List UInt8) (c : UInt8) : mkB l ++ (⟨#[c]⟩ : ByteArray) ++ mkB q = mkB (l ++ c :: q) := mkB_of' (by simp only [cat_list, mkB_list]; simp)

set_option maxHeartbeats 3200000 in
set_option maxRecDepth 100000 in
theorem refjoin_any (V : Value) (v : Ver) (w : World) (hV : VerIn w V v) (hs : smallV 100000000 v) (hl : (joinL v).length ≤ 1000000000) :
    Calls Try.prog 15 #[V] w fun e w' => e = .returned (.tuple #[.string (mkB (joinE v).1), .int .i64 (joinE v).2]) ∧ Below w.heap.size w w' := by
  obtain ⟨a, c, rfl, hst⟩ := hV.ex
  have hfi : fitL v = (okV (joinL v) && decide (verOf (joinL v) = v)) := by
    rw [Bool.eq_iff_iff, Bool.and_eq_true, decide_eq_true_eq]; exact (join_iff v).symm
  obtain ⟨u, hu⟩ : ∃ u, verOf (joinL v) = u := ⟨_, rfl⟩
  obtain ⟨o, ho⟩ : ∃ o, okV (joinL v) = o := ⟨_, rfl⟩
  rw [hu, ho, ver_eq] at hfi
  have e1 := mk_beq u.1 v.1
  have e2 := mk_beq u.2.1 v.2.1
  have e3 := mk_beq u.2.2.1 v.2.2.1
  obtain ⟨b1, h1⟩ : ∃ b, decide (u.1 = v.1) = b := ⟨_, rfl⟩
  obtain ⟨b2, h2⟩ : ∃ b, decide (u.2.1 = v.2.1) = b := ⟨_, rfl⟩
  obtain ⟨b3, h3⟩ : ∃ b, decide (u.2.2.1 = v.2.2.1) = b := ⟨_, rfl⟩
  obtain ⟨b4, h4⟩ : ∃ b, sameB u.2.2.2 v.2.2.2 = b := ⟨_, rfl⟩
  rw [h1, h2, h3, h4] at hfi; rw [h1] at e1; rw [h2] at e2; rw [h3] at e3
  have hr : joinE v = if (o && (b1 && (b2 && (b3 && b4)))) = true then (joinL v, 0) else ([], 1) := by unfold joinE; rw [hfi]
  obtain ⟨R, hR⟩ : ∃ R, joinE v = R := ⟨_, rfl⟩
  rw [hR] at hr ⊢
  clear h1 h2 h3 hfi hR hV
  obtain ⟨ma, mi, pa, pre⟩ := v
  simp only at hst e1 e2 e3 h4 ⊢
  obtain ⟨n, hn⟩ : ∃ n, pre.length = n := ⟨_, rfl⟩
  have sB : ∀ k, (joinL (ma, mi, pa, pre.take k)).length ≤ 1000000000 := fun k => Nat.le_trans (joinL_take_le _ _ _ _ k) hl
  have HR := Lib.hid hr; have HS := Lib.hid hs; have HL := Lib.hid hl; have HST := Lib.hid hst; have H4 := Lib.hid h4; have HU := Lib.hid hu; have HO := Lib.hid ho; have HN := Lib.hid hn; have SB := Lib.hid sB; have E1 := Lib.hid e1; have E2 := Lib.hid e2; have E3 := Lib.hid e3
  have s1 : (mkB ma).size ≤ 100000000 := by rw [mkB_size]; exact hs.1
  have s2 : (mkB mi).size ≤ 100000000 := by rw [mkB_size]; exact hs.2.1
  have s3 : (mkB pa).size ≤ 100000000 := by rw [mkB_size]; exact hs.2.2.1
  have hn9 : n ≤ 100000000 := by have := hs.2.2.2.1; simp only at this; omega
  rw [hn]
  clear hr hs hl hst h4 hu ho hn sB e1 e2 e3
  go_enter Try.func15, Try.ntmps15
  go_wp2
  go_loop [4, 5] (fun s i => ∃ k : Nat, k ≤ n ∧ i = .int .i64 k ∧ s = .string (mkB (joinL (ma, mi, pa, pre.take k)))) (fun _ i => n - (intOf i).toNat)
  case atStart => exact ⟨0, Nat.zero_le _, rfl, by rw [base_txt, List.take_zero, joinL_none]⟩
  case round =>
    obtain ⟨k, hk, rfl, rfl⟩ := hrel
    obtain ⟨S, hS⟩ : ∃ S, mkB (joinL (ma, mi, pa, pre.take k)) = S := ⟨_, rfl⟩
    have hSz : S.size ≤ 1000000000 := by rw [← hS, mkB_size]; exact SB.out k
    rw [hS]
    have HSS := Lib.hid hS; clear hS
    by_cases hlt : k < n
    · have hlt' : k < pre.length := by rw [HN.out]; exact hlt
      obtain ⟨b, off, ha, hbl, hc⟩ := strs_at HST.out k hlt'
      subst ha
      have hc2 : ∀ o, (w.alloc o).cell? ⟨b, off + k, none⟩ = some (.string (mkB (pre.getD k []))) := fun o => cell_alloc hc o
      have hsq : (mkB (pre.getD k [])).size ≤ 100000000 := by rw [mkB_size]; exact HS.out.2.2.2.2 _ (mem_getD hlt')
      have hst := joinL_step ma mi pa pre k hlt'
      obtain ⟨q, hq⟩ : ∃ q, pre.getD k [] = q := ⟨_, rfl⟩
      rw [hq] at hc hc2 hsq hst
      have HSTEP := Lib.hid hst
      have hbn : b ≠ w.heap.size := by omega
      clear hst hq hlt' hbl
      by_cases h0 : k = 0
      · have hb : ((k : Int) == 0) = true := by rw [h0]; rfl
        have H0 := Lib.hid h0; clear h0
        go_wp2
        go_round
        case rel => exact ⟨k + 1, by omega, by go_num, by rw [HSTEP.out, if_pos H0.out, ← HSS.out, put_txt]⟩
        case measure => simp [intOf]; omega
      · have hb : ((k : Int) == 0) = false := by rw [beq_eq_false_iff_ne]; omega
        have H0 := Lib.hid h0; clear h0
        go_wp2
        go_round
        case rel => exact ⟨k + 1, by omega, by go_num, by rw [HSTEP.out, if_neg H0.out, ← HSS.out, put_txt]⟩
        case measure => simp [intOf]; omega
    · have hfull : joinL (ma, mi, pa, pre.take k) = joinL (ma, mi, pa, pre) := by rw [List.take_of_length_le (by rw [HN.out]; omega)]
      have hSl : S.data.toList = joinL (ma, mi, pa, pre) := by rw [← HSS.out, mkB_list, hfull]
      have HSL := Lib.hid hSl; have HSZ := Lib.hid hSz
      clear hfull hSl
      have e1 := E1.out; have e2 := E2.out; have e3 := E3.out
      clear E1 E2 E3
      cases o
      · have hR : R = ([], 1) := by simpa using HR.out
        have HRR := Lib.hid hR; clear hR HR e1 e2 e3
        go_wp2_with (first
          | (go_at_call 13; refine (refsplit_e _ _ HSZ.out).mono ?_; rintro e w1 ⟨a1, c1, rfl, hst1, hb1⟩; rw [HSL.out, HU.out] at hst1 ⊢; rw [HO.out]; obtain ⟨d0, d1, d2, d3, _, _, _, _⟩ := row4 (row_keep (heap_alloc_new w (.cells #[.string (mkB ma), .string (mkB mi), .string (mkB pa), .slice a n c] 24)) hb1); have d0' := fun o => cell_alloc d0 o; have d1' := fun o => cell_alloc d1 o; have d2' := fun o => cell_alloc d2 o; have d3' := fun o => cell_alloc d3 o; have STV := Lib.hid ((HST.out.below ((Below.refl _ _).alloc (Nat.le_refl _) (.cells #[.string (mkB ma), .string (mkB mi), .string (mkB pa), .slice a n c] 24))).below hb1); have STU := Lib.hid hst1; have B1 := Lib.hid (below_step ((Below.refl w.heap.size w).alloc (Nat.le_refl _) (.cells #[.string (mkB ma), .string (mkB mi), .string (mkB pa), .slice a n c] 24)) hb1); clear hst1 hb1)
          | (go_at_call 31; refine (same_any _ _ u.2.2.2 pre _ (STU.out.below ((Below.refl _ _).alloc (Nat.le_refl _) _)) (by have h := STV.out.below ((Below.refl _ _).alloc (Nat.le_refl _) (.cells #[.string (mkB u.1), .string (mkB u.2.1), .string (mkB u.2.2.1), .slice a1 u.2.2.2.length c1] 24)); rw [HN.out] at h; exact h)).mono ?_; rintro e w2 ⟨rfl, hq⟩; have B2 := Lib.hid (below_step (B1.out.alloc B1.out.size _) (below_q hq)); clear hq; rw [H4.out]))
        go_ret2
        exact ⟨by rw [HRR.out]; rfl, B1.out.alloc B1.out.size _⟩
      · cases b1
        · have hR : R = ([], 1) := by simpa using HR.out
          have HRR := Lib.hid hR; clear hR HR
          go_wp2_with (first
            | (go_at_call 13; refine (refsplit_e _ _ HSZ.out).mono ?_; rintro e w1 ⟨a1, c1, rfl, hst1, hb1⟩; rw [HSL.out, HU.out] at hst1 ⊢; rw [HO.out]; obtain ⟨d0, d1, d2, d3, _, _, _, _⟩ := row4 (row_keep (heap_alloc_new w (.cells #[.string (mkB ma), .string (mkB mi), .string (mkB pa), .slice a n c] 24)) hb1); have d0' := fun o => cell_alloc d0 o; have d1' := fun o => cell_alloc d1 o; have d2' := fun o => cell_alloc d2 o; have d3' := fun o => cell_alloc d3 o; have STV := Lib.hid ((HST.out.below ((Below.refl _ _).alloc (Nat.le_refl _) (.cells #[.string (mkB ma), .string (mkB mi), .string (mkB pa), .slice a n c] 24))).below hb1); have STU := Lib.hid hst1; have B1 := Lib.hid (below_step ((Below.refl w.heap.size w).alloc (Nat.le_refl _) (.cells #[.string (mkB ma), .string (mkB mi), .string (mkB pa), .slice a n c] 24)) hb1); clear hst1 hb1)
            | (go_at_call 31; refine (same_any _ _ u.2.2.2 pre _ (STU.out.below ((Below.refl _ _).alloc (Nat.le_refl _) _)) (by have h := STV.out.below ((Below.refl _ _).alloc (Nat.le_refl _) (.cells #[.string (mkB u.1), .string (mkB u.2.1), .string (mkB u.2.2.1), .slice a1 u.2.2.2.length c1] 24)); rw [HN.out] at h; exact h)).mono ?_; rintro e w2 ⟨rfl, hq⟩; have B2 := Lib.hid (below_step (B1.out.alloc B1.out.size _) (below_q hq)); clear hq; rw [H4.out]))
          go_ret2
          exact ⟨by rw [HRR.out]; rfl, B1.out.alloc B1.out.size _⟩
        · cases b2
          · have hR : R = ([], 1) := by simpa using HR.out
            have HRR := Lib.hid hR; clear hR HR
            go_wp2_with (first
              | (go_at_call 13; refine (refsplit_e _ _ HSZ.out).mono ?_; rintro e w1 ⟨a1, c1, rfl, hst1, hb1⟩; rw [HSL.out, HU.out] at hst1 ⊢; rw [HO.out]; obtain ⟨d0, d1, d2, d3, _, _, _, _⟩ := row4 (row_keep (heap_alloc_new w (.cells #[.string (mkB ma), .string (mkB mi), .string (mkB pa), .slice a n c] 24)) hb1); have d0' := fun o => cell_alloc d0 o; have d1' := fun o => cell_alloc d1 o; have d2' := fun o => cell_alloc d2 o; have d3' := fun o => cell_alloc d3 o; have STV := Lib.hid ((HST.out.below ((Below.refl _ _).alloc (Nat.le_refl _) (.cells #[.string (mkB ma), .string (mkB mi), .string (mkB pa), .slice a n c] 24))).below hb1); have STU := Lib.hid hst1; have B1 := Lib.hid (below_step ((Below.refl w.heap.size w).alloc (Nat.le_refl _) (.cells #[.string (mkB ma), .string (mkB mi), .string (mkB pa), .slice a n c] 24)) hb1); clear hst1 hb1)
              | (go_at_call 31; refine (same_any _ _ u.2.2.2 pre _ (STU.out.below ((Below.refl _ _).alloc (Nat.le_refl _) _)) (by have h := STV.out.below ((Below.refl _ _).alloc (Nat.le_refl _) (.cells #[.string (mkB u.1), .string (mkB u.2.1), .string (mkB u.2.2.1), .slice a1 u.2.2.2.length c1] 24)); rw [HN.out] at h; exact h)).mono ?_; rintro e w2 ⟨rfl, hq⟩; have B2 := Lib.hid (below_step (B1.out.alloc B1.out.size _) (below_q hq)); clear hq; rw [H4.out]))
            go_ret2
            exact ⟨by rw [HRR.out]; rfl, B1.out.alloc B1.out.size _⟩
          · cases b3
            · have hR : R = ([], 1) := by simpa using HR.out
              have HRR := Lib.hid hR; clear hR HR
              go_wp2_with (first
                | (go_at_call 13; refine (refsplit_e _ _ HSZ.out).mono ?_; rintro e w1 ⟨a1, c1, rfl, hst1, hb1⟩; rw [HSL.out, HU.out] at hst1 ⊢; rw [HO.out]; obtain ⟨d0, d1, d2, d3, _, _, _, _⟩ := row4 (row_keep (heap_alloc_new w (.cells #[.string (mkB ma), .string (mkB mi), .string (mkB pa), .slice a n c] 24)) hb1); have d0' := fun o => cell_alloc d0 o; have d1' := fun o => cell_alloc d1 o; have d2' := fun o => cell_alloc d2 o; have d3' := fun o => cell_alloc d3 o; have STV := Lib.hid ((HST.out.below ((Below.refl _ _).alloc (Nat.le_refl _) (.cells #[.string (mkB ma), .string (mkB mi), .string (mkB pa), .slice a n c] 24))).below hb1); have STU := Lib.hid hst1; have B1 := Lib.hid (below_step ((Below.refl w.heap.size w).alloc (Nat.le_refl _) (.cells #[.string (mkB ma), .string (mkB mi), .string (mkB pa), .slice a n c] 24)) hb1); clear hst1 hb1)
                | (go_at_call 31; refine (same_any _ _ u.2.2.2 pre _ (STU.out.below ((Below.refl _ _).alloc (Nat.le_refl _) _)) (by have h := STV.out.below ((Below.refl _ _).alloc (Nat.le_refl _) (.cells #[.string (mkB u.1), .string (mkB u.2.1), .string (mkB u.2.2.1), .slice a1 u.2.2.2.length c1] 24)); rw [HN.out] at h; exact h)).mono ?_; rintro e w2 ⟨rfl, hq⟩; have B2 := Lib.hid (below_step (B1.out.alloc B1.out.size _) (below_q hq)); clear hq; rw [H4.out]))
              go_ret2
              exact ⟨by rw [HRR.out]; rfl, B1.out.alloc B1.out.size _⟩
            · cases b4
              · have hR : R = ([], 1) := by simpa using HR.out
                have HRR := Lib.hid hR; clear hR HR
                go_wp2_with (first
                  | (go_at_call 13; refine (refsplit_e _ _ HSZ.out).mono ?_; rintro e w1 ⟨a1, c1, rfl, hst1, hb1⟩; rw [HSL.out, HU.out] at hst1 ⊢; rw [HO.out]; obtain ⟨d0, d1, d2, d3, _, _, _, _⟩ := row4 (row_keep (heap_alloc_new w (.cells #[.string (mkB ma), .string (mkB mi), .string (mkB pa), .slice a n c] 24)) hb1); have d0' := fun o => cell_alloc d0 o; have d1' := fun o => cell_alloc d1 o; have d2' := fun o => cell_alloc d2 o; have d3' := fun o => cell_alloc d3 o; have STV := Lib.hid ((HST.out.below ((Below.refl _ _).alloc (Nat.le_refl _) (.cells #[.string (mkB ma), .string (mkB mi), .string (mkB pa), .slice a n c] 24))).below hb1); have STU := Lib.hid hst1; have B1 := Lib.hid (below_step ((Below.refl w.heap.size w).alloc (Nat.le_refl _) (.cells #[.string (mkB ma), .string (mkB mi), .string (mkB pa), .slice a n c] 24)) hb1); clear hst1 hb1)
                  | (go_at_call 31; refine (same_any _ _ u.2.2.2 pre _ (STU.out.below ((Below.refl _ _).alloc (Nat.le_refl _) _)) (by have h := STV.out.below ((Below.refl _ _).alloc (Nat.le_refl _) (.cells #[.string (mkB u.1), .string (mkB u.2.1), .string (mkB u.2.2.1), .slice a1 u.2.2.2.length c1] 24)); rw [HN.out] at h; exact h)).mono ?_; rintro e w2 ⟨rfl, hq⟩; have B2 := Lib.hid (below_step (B1.out.alloc B1.out.size _) (below_q hq)); clear hq; rw [H4.out]))
                go_ret2
                exact ⟨by rw [HRR.out]; rfl, B2.out⟩
              · have hR : R = (joinL (ma, mi, pa, pre), 0) := by simpa using HR.out
                have HRR := Lib.hid hR; clear hR HR
                go_wp2_with (first
                  | (go_at_call 13; refine (refsplit_e _ _ HSZ.out).mono ?_; rintro e w1 ⟨a1, c1, rfl, hst1, hb1⟩; rw [HSL.out, HU.out] at hst1 ⊢; rw [HO.out]; obtain ⟨d0, d1, d2, d3, _, _, _, _⟩ := row4 (row_keep (heap_alloc_new w (.cells #[.string (mkB ma), .string (mkB mi), .string (mkB pa), .slice a n c] 24)) hb1); have d0' := fun o => cell_alloc d0 o; have d1' := fun o => cell_alloc d1 o; have d2' := fun o => cell_alloc d2 o; have d3' := fun o => cell_alloc d3 o; have STV := Lib.hid ((HST.out.below ((Below.refl _ _).alloc (Nat.le_refl _) (.cells #[.string (mkB ma), .string (mkB mi), .string (mkB pa), .slice a n c] 24))).below hb1); have STU := Lib.hid hst1; have B1 := Lib.hid (below_step ((Below.refl w.heap.size w).alloc (Nat.le_refl _) (.cells #[.string (mkB ma), .string (mkB mi), .string (mkB pa), .slice a n c] 24)) hb1); clear hst1 hb1)
                  | (go_at_call 31; refine (same_any _ _ u.2.2.2 pre _ (STU.out.below ((Below.refl _ _).alloc (Nat.le_refl _) _)) (by have h := STV.out.below ((Below.refl _ _).alloc (Nat.le_refl _) (.cells #[.string (mkB u.1), .string (mkB u.2.1), .string (mkB u.2.2.1), .slice a1 u.2.2.2.length c1] 24)); rw [HN.out] at h; exact h)).mono ?_; rintro e w2 ⟨rfl, hq⟩; have B2 := Lib.hid (below_step (B1.out.alloc B1.out.size _) (below_q hq)); clear hq; rw [H4.out]))
                go_ret2
                exact ⟨tup2 (by rw [HRR.out]; exact mkB_of' HSL.out) (by rw [HRR.out]), B2.out⟩
end Go.Proofs.Ytcdflfjbdbofcaa
