/- Version's Max. -/
import Derived.Test.YtcdflfjbdbofcaaVerL
namespace Go.Proofs.Ytcdflfjbdbofcaa
open Go.RowKit

/-- The last one of the first k. -/
def maxK (ls : List (List UInt8)) : Nat → List UInt8
  | 0 => []
  | k + 1 => if k = 0 ∨ 0 < cmpT (ls.getD k []) (maxK ls k) then ls.getD k [] else maxK ls k
theorem maxF_snoc (r : List (List UInt8)) (x : List UInt8) : ∀ b, maxF b (r ++ [x]) = if 0 < cmpT x (maxF b r) then x else maxF b r := by
  induction r with
  | nil => intro b; rfl
  | cons s r ih => intro b; rw [List.cons_append, maxF, ih, maxF]
theorem maxK_maxF (s : List UInt8) (r : List (List UInt8)) : ∀ j, j ≤ r.length → maxK (s :: r) (j + 1) = maxF s (r.take j) := by
  intro j
  induction j with
  | zero => intro _; simp [maxK, maxF]
  | succ j ih =>
    intro h
    have e : r.take (j + 1) = r.take j ++ [r[j]] := List.take_succ_eq_append_getElem (by omega)
    have g : (s :: r).getD (j + 1) [] = r[j] := by simp [List.getD_eq_getElem?_getD, List.getElem?_eq_getElem (show j < r.length by omega)]
    rw [e, maxF_snoc, ← ih (by omega), maxK, g]
    by_cases hc : 0 < cmpT r[j] (maxK (s :: r) (j + 1))
    · rw [if_pos (.inr hc), if_pos hc]
    · rw [if_neg (by omega), if_neg hc]
theorem maxE_K (ls : List (List UInt8)) (h0 : ls ≠ []) (h : ls.all okV = true) : maxE ls = (maxK ls ls.length, 0) := by
  cases ls with
  | nil => exact absurd rfl h0
  | cons s r => rw [maxE, if_pos h, List.length_cons, maxK_maxF s r r.length (Nat.le_refl _), List.take_length]
theorem maxK_mem (ls : List (List UInt8)) : ∀ k, k ≤ ls.length → 0 < k → maxK ls k ∈ ls := by
  intro k
  induction k with
  | zero => intro _ h; omega
  | succ k ih =>
    intro h _
    rw [maxK]
    split
    · exact mem_getD (by omega)
    · rename_i hc
      exact ih (by omega) (by omega)

theorem maxK_take (ls : List (List UInt8)) : ∀ k, k ≤ ls.length → 0 < k → maxK ls k ∈ ls.take k := by
  intro k
  induction k with
  | zero => intro _ h; omega
  | succ k ih =>
    intro h _
    have e : ls.take (k + 1) = ls.take k ++ [ls.getD k []] := by
      rw [List.take_succ_eq_append_getElem (by omega), List.getD_eq_getElem?_getD, List.getElem?_eq_getElem (by omega)]; rfl
    rw [maxK, e]
    split
    · simp
    · rename_i hc
      exact List.mem_append_left _ (ih (by omega) (by omega))

set_option maxHeartbeats 6400000 in
set_option maxRecDepth 100000 in
theorem max_any (v : Value) (ls : List (List UInt8)) (w : World) (hv : Strs w v ls) (hs : ∀ l ∈ ls, l.length ≤ 1000000000) :
    Calls Try.prog 22 #[v] w fun e w' => e = .returned (.tuple #[.string (mkB (maxE ls).1), .int .i64 (maxE ls).2]) ∧ Below w.heap.size w w' := by
  obtain ⟨a, c, rfl, h1, h2, _, _⟩ := hv.ex
  unfold maxLen at h2
  obtain ⟨R, hR⟩ : ∃ R, maxE ls = R := ⟨_, rfl⟩
  rw [hR]
  obtain ⟨n, hn⟩ : ∃ n, ls.length = n := ⟨_, rfl⟩
  rw [hn] at hv h1 ⊢
  have HV := Lib.hid hv; have HS := Lib.hid hs; have HR := Lib.hid hR; have HN := Lib.hid hn
  clear hv hs hR hn
  by_cases h0 : n = 0
  · have hb : ((n : Int) == 0) = true := by rw [h0]; rfl
    have hl : ls = [] := List.eq_nil_of_length_eq_zero (by rw [HN.out, h0])
    have hRR : R = ([], 2) := by rw [← HR.out, hl]; rfl
    have HRR := Lib.hid hRR
    clear hl hRR h0
    go_enter Try.func22, Try.ntmps22
    go_wp2
    go_ret2
    exact ⟨tup2 (by rw [HRR.out]; rfl) (by rw [HRR.out]), Below.refl _ _⟩
  · have hb : ((n : Int) == 0) = false := by rw [beq_eq_false_iff_ne]; omega
    have hne : ls ≠ [] := fun e => h0 (by rw [← HN.out, e]; rfl)
    have HNE := Lib.hid hne; have H0 := Lib.hid h0
    clear hne h0
    go_enter Try.func22, Try.ntmps22
    go_wp2
    clear hb
    go_loopw [4, 15] (fun s i wr => ∃ k : Nat, k ≤ n ∧ i = .int .i64 k ∧ s = .string (mkB (maxK ls k)) ∧ Hid ((ls.take k).all okV = true) ∧ Hid (∃ a' c', wr.heap[w.heap.size]? = some (.cells #[.string (mkB (verOf (maxK ls k)).1), .string (mkB (verOf (maxK ls k)).2.1), .string (mkB (verOf (maxK ls k)).2.2.1), .slice a' (verOf (maxK ls k)).2.2.2.length c'] 24) ∧ Strs wr (.slice a' (verOf (maxK ls k)).2.2.2.length c') (verOf (maxK ls k)).2.2.2) ∧ Hid (Below w.heap.size w wr)) (fun _ i _ => n - (intOf i).toNat)
    case atStart => exact ⟨0, Nat.zero_le _, rfl, rfl, Lib.hid (by simp), Lib.hid ⟨none, 0, heap_alloc_new _ _, strs_none _⟩, Lib.hid ((Below.refl _ _).alloc (Nat.le_refl _) _)⟩
    case round =>
      obtain ⟨k, hk, rfl, rfl, HO, HROW, HL⟩ := hrel
      obtain ⟨best, hbest⟩ : ∃ best, maxK ls k = best := ⟨_, rfl⟩
      rw [hbest] at HROW ⊢
      have HB := Lib.hid hbest; clear hbest
      by_cases hlt : k < n
      · have hlt' : k < ls.length := by rw [HN.out]; exact hlt
        have hstep : maxK ls (k + 1) = if k = 0 ∨ 0 < cmpT (ls.getD k []) best then ls.getD k [] else best := by rw [maxK, HB.out]
        obtain ⟨b, off, ha, hbl, hc⟩ := strs_at HV.out k hlt'
        subst ha
        have hcell := (HL.out.cell hbl).trans hc
        have HQS : Hid ((mkB (ls.getD k [])).size ≤ 1000000000) := Lib.hid (by rw [mkB_size]; exact HS.out _ (mem_getD hlt'))
        have HQL : Hid ((ls.getD k []).length ≤ 1000000000) := Lib.hid (HS.out _ (mem_getD hlt'))
        have HMEM := Lib.hid (mem_getD hlt')
        have HTK := Lib.hid (fun (p : List UInt8 → Bool) (ht : (ls.take k).all p = true) (hp : p (ls.getD k []) = true) => all_take_succ hlt' ht hp)
        obtain ⟨q, hq⟩ : ∃ q, ls.getD k [] = q := ⟨_, rfl⟩
        rw [hq] at hcell HQS HQL HMEM hstep HTK
        have HSTEP := Lib.hid hstep
        clear hc hbl hq hlt' hstep
        obtain ⟨a', c', hrow, hst⟩ := HROW.out
        have ROW := Lib.hid hrow; have STB := Lib.hid hst
        clear hrow hst HROW
        obtain ⟨vb, hvb⟩ : ∃ vb, verOf best = vb := ⟨_, rfl⟩
        rw [hvb] at ROW STB
        have HVB := Lib.hid hvb; clear hvb
        obtain ⟨vq, hvq⟩ : ∃ vq, verOf q = vq := ⟨_, rfl⟩
        have HVQ := Lib.hid hvq; clear hvq
        obtain ⟨o, ho⟩ : ∃ o, okV q = o := ⟨_, rfl⟩
        have he : okE q = if o = true then 0 else 1 := by unfold okE; rw [ho]
        have HE := Lib.hid he; have HOQ := Lib.hid ho; clear he ho
        cases o
        · have hRR : R = ([], 1) := by
            rw [← HR.out]
            exact maxE_no HNE.out (by rw [List.all_eq_false]; exact ⟨q, HMEM.out, by rw [HOQ.out]; simp⟩)
          have HRR := Lib.hid hRR; clear hRR
          go_wp2_with (go_at_call 12; refine (split_e _ _ HQS.out).mono ?_; rintro e w1 ⟨a1, c1, rfl, hst1, hb1⟩; rw [mkB_list] at hst1 ⊢; rw [HE.out]; have B1 := Lib.hid (below_step HL.out hb1); clear hst1 hb1)
          go_ret2
          exact ⟨tup2 (by rw [HRR.out]; rfl) (by rw [HRR.out]), B1.out.alloc B1.out.size _⟩
        · by_cases hk0 : k = 0
          · have hkb : ((k : Int) == 0) = true := by rw [hk0]; rfl
            have hnew : maxK ls (k + 1) = q := by rw [HSTEP.out, if_pos (.inl hk0)]
            have HNEW := Lib.hid hnew; clear hnew hk0
            go_upto_region 9 with (go_at_call 12; refine (split_f _ _ HQS.out).mono ?_; rintro e w1 ⟨a1, c1, rfl, hst1, hfr, hb1⟩; rw [mkB_list, HVQ.out] at hst1 ⊢; rw [HE.out]; have B1 := Lib.hid (below_step HL.out hb1); have R1 := Lib.hid (row_keep ROW.out hb1); have S1 := Lib.hid (STB.out.below hb1); have Q1 := Lib.hid hst1; have HLTW := Lib.hid (Array.getElem?_eq_some_iff.1 ROW.out).1; have FRQ : Hid (∀ ad, a1 = some ad → ad.block ≠ w.heap.size) := Lib.hid (fun ad ha => by have := hfr ad ha; have := HLTW.out; omega); clear hst1 hb1 hfr HLTW)
            obtain ⟨wB, hwB⟩ : ∃ wB, wB = w1.alloc (.cells #[.string (mkB vq.1), .string (mkB vq.2.1), .string (mkB vq.2.2.1), .slice a1 vq.2.2.2.length c1] 24) := ⟨_, rfl⟩
            rw [← hwB]
            have r8 : wB.heap[w1.heap.size]? = some (.cells #[.string (mkB vq.1), .string (mkB vq.2.1), .string (mkB vq.2.2.1), .slice a1 vq.2.2.2.length c1] 24) := by rw [hwB]; exact heap_alloc_new _ _
            have r0 := row_keep R1.out ((Below.refl w1.heap.size w1).alloc (Nat.le_refl _) (.cells #[.string (mkB vq.1), .string (mkB vq.2.1), .string (mkB vq.2.2.1), .slice a1 vq.2.2.2.length c1] 24))
            have sb := S1.out.below ((Below.refl w1.heap.size w1).alloc (Nat.le_refl _) (.cells #[.string (mkB vq.1), .string (mkB vq.2.1), .string (mkB vq.2.2.1), .slice a1 vq.2.2.2.length c1] 24))
            have sq := Q1.out.below ((Below.refl w1.heap.size w1).alloc (Nat.le_refl _) (.cells #[.string (mkB vq.1), .string (mkB vq.2.1), .string (mkB vq.2.2.1), .slice a1 vq.2.2.2.length c1] 24))
            have bb := B1.out.alloc B1.out.size (.cells #[.string (mkB vq.1), .string (mkB vq.2.1), .string (mkB vq.2.2.1), .slice a1 vq.2.2.2.length c1] 24)
            rw [← hwB] at r0 sb sq bb
            have hlt8 : w.heap.size < w1.heap.size := (Array.getElem?_eq_some_iff.1 R1.out).1
            clear hwB
            obtain ⟨g, hg⟩ : ∃ g, g = w1.heap.size := ⟨_, rfl⟩
            rw [← hg] at r8 hlt8 ⊢
            clear hg
            have hn1 : g ≠ w.heap.size := by omega
            have hn2 : w.heap.size ≠ g := by omega
            have R8 := Lib.hid r8; have R0 := Lib.hid r0; have SB := Lib.hid sb; have SQ := Lib.hid sq; have BB := Lib.hid bb; have HLT8 := Lib.hid hlt8
            clear R1 S1 Q1 B1 r8 r0 sb sq bb hlt8
            obtain ⟨d0, d1, d2, d3, e0, e1, e2, e3⟩ := row4 R0.out
            obtain ⟨k0, k1, k2, k3, l0, l1, l2, l3⟩ := row4 R8.out
            go_wp2
            go_region
            all_goals
              go_wp2
              go_roundw
              case rel =>
                refine ⟨k + 1, by omega, by go_num, by rw [HNEW.out], Lib.hid (HTK.out okV HO.out HOQ.out), Lib.hid ?_, Lib.hid ?_⟩
                · rw [HNEW.out, HVQ.out]
                  exact ⟨a1, c1, row4_set R0.out _ _ _ _, ((((SQ.out.far FRQ.out).far FRQ.out).far FRQ.out).far FRQ.out).drewN 1⟩
                · exact below_step (((((BB.out.setCell (Nat.le_refl _) _).setCell (Nat.le_refl _) _).setCell (Nat.le_refl _) _).setCell (Nat.le_refl _) _)) (below_q ⟨1, rfl⟩)
              case measure => simp [intOf]; omega
          · have hkb : ((k : Int) == 0) = false := by rw [beq_eq_false_iff_ne]; omega
            obtain ⟨T, hT⟩ : ∃ T, cmpT q best = T := ⟨_, rfl⟩
            have hTT : cmpV vq vb = T := by rw [← hT, ← HVQ.out, ← HVB.out]; rfl
            have hbm : best ∈ ls.take k := by rw [← HB.out]; exact maxK_take ls k (by rw [HN.out]; omega) (by omega)
            have hbok : okV best = true := List.all_eq_true.1 HO.out best hbm
            have FQ : Hid (fitL vq = true) := Lib.hid (by rw [← HVQ.out]; exact (join_ok HOQ.out).2)
            have FB : Hid (fitL vb = true) := Lib.hid (by rw [← HVB.out]; exact (join_ok hbok).2)
            have SMQ : Hid (smallV 1000000000 vq) := Lib.hid (by rw [← HVQ.out]; exact small_verOf q HQL.out)
            have SMB : Hid (smallV 1000000000 vb) := Lib.hid (by rw [← HVB.out]; exact small_verOf best (HS.out best (List.mem_of_mem_take hbm)))
            have hstep2 := HSTEP.out
            rw [hT] at hstep2
            have HSTEP2 := Lib.hid hstep2
            have HTT := Lib.hid hTT; have HK0 := Lib.hid hk0
            clear hT hTT hbm hbok hstep2 hk0 HSTEP
            by_cases htp : 0 < T
            · have hnew : maxK ls (k + 1) = q := by rw [HSTEP2.out, if_pos (.inr htp)]
              have HNEW := Lib.hid hnew; clear hnew
              go_upto_region 9 with (go_at_call 12; refine (split_f _ _ HQS.out).mono ?_; rintro e w1 ⟨a1, c1, rfl, hst1, hfr, hb1⟩; rw [mkB_list, HVQ.out] at hst1 ⊢; rw [HE.out]; have B1 := Lib.hid (below_step HL.out hb1); have R1 := Lib.hid (row_keep ROW.out hb1); have S1 := Lib.hid (STB.out.below hb1); have Q1 := Lib.hid hst1; have HLTW := Lib.hid (Array.getElem?_eq_some_iff.1 ROW.out).1; have FRQ : Hid (∀ ad, a1 = some ad → ad.block ≠ w.heap.size) := Lib.hid (fun ad ha => by have := hfr ad ha; have := HLTW.out; omega); clear hst1 hb1 hfr HLTW)
              obtain ⟨wB, hwB⟩ : ∃ wB, wB = w1.alloc (.cells #[.string (mkB vq.1), .string (mkB vq.2.1), .string (mkB vq.2.2.1), .slice a1 vq.2.2.2.length c1] 24) := ⟨_, rfl⟩
              rw [← hwB]
              have r8 : wB.heap[w1.heap.size]? = some (.cells #[.string (mkB vq.1), .string (mkB vq.2.1), .string (mkB vq.2.2.1), .slice a1 vq.2.2.2.length c1] 24) := by rw [hwB]; exact heap_alloc_new _ _
              have r0 := row_keep R1.out ((Below.refl w1.heap.size w1).alloc (Nat.le_refl _) (.cells #[.string (mkB vq.1), .string (mkB vq.2.1), .string (mkB vq.2.2.1), .slice a1 vq.2.2.2.length c1] 24))
              have sb := S1.out.below ((Below.refl w1.heap.size w1).alloc (Nat.le_refl _) (.cells #[.string (mkB vq.1), .string (mkB vq.2.1), .string (mkB vq.2.2.1), .slice a1 vq.2.2.2.length c1] 24))
              have sq := Q1.out.below ((Below.refl w1.heap.size w1).alloc (Nat.le_refl _) (.cells #[.string (mkB vq.1), .string (mkB vq.2.1), .string (mkB vq.2.2.1), .slice a1 vq.2.2.2.length c1] 24))
              have bb := B1.out.alloc B1.out.size (.cells #[.string (mkB vq.1), .string (mkB vq.2.1), .string (mkB vq.2.2.1), .slice a1 vq.2.2.2.length c1] 24)
              rw [← hwB] at r0 sb sq bb
              have hlt8 : w.heap.size < w1.heap.size := (Array.getElem?_eq_some_iff.1 R1.out).1
              clear hwB
              obtain ⟨g, hg⟩ : ∃ g, g = w1.heap.size := ⟨_, rfl⟩
              rw [← hg] at r8 hlt8 ⊢
              clear hg
              have hn1 : g ≠ w.heap.size := by omega
              have hn2 : w.heap.size ≠ g := by omega
              have R8 := Lib.hid r8; have R0 := Lib.hid r0; have SB := Lib.hid sb; have SQ := Lib.hid sq; have BB := Lib.hid bb; have HLT8 := Lib.hid hlt8
              clear R1 S1 Q1 B1 r8 r0 sb sq bb hlt8
              obtain ⟨d0, d1, d2, d3, e0, e1, e2, e3⟩ := row4 R0.out
              obtain ⟨k0, k1, k2, k3, l0, l1, l2, l3⟩ := row4 R8.out
              go_wp2_with (go_at_call 32; refine (order_any _ _ vq vb _ ⟨⟨_, _, rfl, SQ.out⟩⟩ ⟨⟨_, _, rfl, SB.out⟩⟩ FQ.out FB.out SMQ.out SMB.out).mono ?_; rintro e w3 ⟨rfl, hb3⟩; rw [HTT.out]; have R03 := Lib.hid (row_keep R0.out hb3); have R83 := Lib.hid (row_keep R8.out hb3); have SQ3 := Lib.hid (SQ.out.below hb3); have SB3 := Lib.hid (SB.out.below hb3); have BB3 := Lib.hid (below_step BB.out hb3); clear hb3; clear d0 d1 d2 d3 e0 e1 e2 e3 k0 k1 k2 k3 l0 l1 l2 l3; obtain ⟨d0, d1, d2, d3, e0, e1, e2, e3⟩ := row4 R03.out; obtain ⟨k0, k1, k2, k3, l0, l1, l2, l3⟩ := row4 R83.out)
              go_region
              all_goals
                go_wp2
                go_roundw
                case rel =>
                  refine ⟨k + 1, by omega, by go_num, by rw [HNEW.out], Lib.hid (HTK.out okV HO.out HOQ.out), Lib.hid ?_, Lib.hid ?_⟩
                  · rw [HNEW.out, HVQ.out]
                    exact ⟨a1, c1, row4_set R03.out _ _ _ _, ((((SQ3.out.far FRQ.out).far FRQ.out).far FRQ.out).far FRQ.out).drewN 1⟩
                  · exact below_step (((((BB3.out.setCell (Nat.le_refl _) _).setCell (Nat.le_refl _) _).setCell (Nat.le_refl _) _).setCell (Nat.le_refl _) _)) (below_q ⟨1, rfl⟩)
                case measure => simp [intOf]; omega
            · have hnew : maxK ls (k + 1) = best := by rw [HSTEP2.out, if_neg (by have := HK0.out; omega)]
              have HNEW := Lib.hid hnew; clear hnew
              go_upto_region 9 with (go_at_call 12; refine (split_f _ _ HQS.out).mono ?_; rintro e w1 ⟨a1, c1, rfl, hst1, hfr, hb1⟩; rw [mkB_list, HVQ.out] at hst1 ⊢; rw [HE.out]; have B1 := Lib.hid (below_step HL.out hb1); have R1 := Lib.hid (row_keep ROW.out hb1); have S1 := Lib.hid (STB.out.below hb1); have Q1 := Lib.hid hst1; have HLTW := Lib.hid (Array.getElem?_eq_some_iff.1 ROW.out).1; have FRQ : Hid (∀ ad, a1 = some ad → ad.block ≠ w.heap.size) := Lib.hid (fun ad ha => by have := hfr ad ha; have := HLTW.out; omega); clear hst1 hb1 hfr HLTW)
              obtain ⟨wB, hwB⟩ : ∃ wB, wB = w1.alloc (.cells #[.string (mkB vq.1), .string (mkB vq.2.1), .string (mkB vq.2.2.1), .slice a1 vq.2.2.2.length c1] 24) := ⟨_, rfl⟩
              rw [← hwB]
              have r8 : wB.heap[w1.heap.size]? = some (.cells #[.string (mkB vq.1), .string (mkB vq.2.1), .string (mkB vq.2.2.1), .slice a1 vq.2.2.2.length c1] 24) := by rw [hwB]; exact heap_alloc_new _ _
              have r0 := row_keep R1.out ((Below.refl w1.heap.size w1).alloc (Nat.le_refl _) (.cells #[.string (mkB vq.1), .string (mkB vq.2.1), .string (mkB vq.2.2.1), .slice a1 vq.2.2.2.length c1] 24))
              have sb := S1.out.below ((Below.refl w1.heap.size w1).alloc (Nat.le_refl _) (.cells #[.string (mkB vq.1), .string (mkB vq.2.1), .string (mkB vq.2.2.1), .slice a1 vq.2.2.2.length c1] 24))
              have sq := Q1.out.below ((Below.refl w1.heap.size w1).alloc (Nat.le_refl _) (.cells #[.string (mkB vq.1), .string (mkB vq.2.1), .string (mkB vq.2.2.1), .slice a1 vq.2.2.2.length c1] 24))
              have bb := B1.out.alloc B1.out.size (.cells #[.string (mkB vq.1), .string (mkB vq.2.1), .string (mkB vq.2.2.1), .slice a1 vq.2.2.2.length c1] 24)
              rw [← hwB] at r0 sb sq bb
              have hlt8 : w.heap.size < w1.heap.size := (Array.getElem?_eq_some_iff.1 R1.out).1
              clear hwB
              obtain ⟨g, hg⟩ : ∃ g, g = w1.heap.size := ⟨_, rfl⟩
              rw [← hg] at r8 hlt8 ⊢
              clear hg
              have hn1 : g ≠ w.heap.size := by omega
              have hn2 : w.heap.size ≠ g := by omega
              have R8 := Lib.hid r8; have R0 := Lib.hid r0; have SB := Lib.hid sb; have SQ := Lib.hid sq; have BB := Lib.hid bb; have HLT8 := Lib.hid hlt8
              clear R1 S1 Q1 B1 r8 r0 sb sq bb hlt8
              obtain ⟨d0, d1, d2, d3, e0, e1, e2, e3⟩ := row4 R0.out
              obtain ⟨k0, k1, k2, k3, l0, l1, l2, l3⟩ := row4 R8.out
              go_wp2_with (go_at_call 32; refine (order_any _ _ vq vb _ ⟨⟨_, _, rfl, SQ.out⟩⟩ ⟨⟨_, _, rfl, SB.out⟩⟩ FQ.out FB.out SMQ.out SMB.out).mono ?_; rintro e w3 ⟨rfl, hb3⟩; rw [HTT.out]; have R03 := Lib.hid (row_keep R0.out hb3); have R83 := Lib.hid (row_keep R8.out hb3); have SQ3 := Lib.hid (SQ.out.below hb3); have SB3 := Lib.hid (SB.out.below hb3); have BB3 := Lib.hid (below_step BB.out hb3); clear hb3; clear d0 d1 d2 d3 e0 e1 e2 e3 k0 k1 k2 k3 l0 l1 l2 l3; obtain ⟨d0, d1, d2, d3, e0, e1, e2, e3⟩ := row4 R03.out; obtain ⟨k0, k1, k2, k3, l0, l1, l2, l3⟩ := row4 R83.out)
              go_roundw
              case rel => exact ⟨k + 1, by omega, by go_num, by rw [HNEW.out], Lib.hid (HTK.out okV HO.out HOQ.out), Lib.hid (by rw [HNEW.out, HVB.out]; exact ⟨a', c', R03.out, SB3.out⟩), BB3⟩
              case measure => simp [intOf]; omega
      · have hall : ls.all okV = true := by have h5 := HO.out; rw [List.take_of_length_le (by rw [HN.out]; omega)] at h5; exact h5
        have hRR : R = (best, 0) := by rw [← HR.out, maxE_K ls HNE.out hall, HN.out, ← HB.out]; congr 2; omega
        have HRR := Lib.hid hRR; clear hall hRR
        go_wp2
        go_ret2
        exact ⟨tup2 (by rw [HRR.out]) (by rw [HRR.out]), HL.out⟩
end Go.Proofs.Ytcdflfjbdbofcaa
