/- The document's own Split. -/
import Derived.Test.YtglhjdbnpdoinaaGreatVerE
namespace Go.Proofs.YtglhjdbnpdoinaaGreat
open Go.RowKit
set_option maxRecDepth 100000

theorem two_rows (w : World) : ((w.alloc (.cells zeroV4 81)).alloc (.cells zeroV4 81)).heap[w.heap.size]? = some (.cells zeroV4 81) ∧
    ((w.alloc (.cells zeroV4 81)).alloc (.cells zeroV4 81)).heap[w.heap.size + 1]? = some (.cells zeroV4 81) ∧ Bel w.heap.size w ((w.alloc (.cells zeroV4 81)).alloc (.cells zeroV4 81)) := by
  refine ⟨?_, ?_, ((Bel.refl _ _).alloc (Nat.le_refl _) _).alloc (by simp) _⟩
  · rw [Below.heap_alloc _ _ _ (by simp)]; exact heap_alloc_new _ _
  · have := heap_alloc_new (w.alloc (.cells zeroV4 81)) (.cells zeroV4 81)
    simpa using this
theorem row4_set012 {w : World} {g : Nat} {x0 x1 x2 x3 : Value} {t : TypeId} (h : w.heap[g]? = some (.cells #[x0, x1, x2, x3] t (0, 0))) (y0 y1 y2 : Value) :
    (((w.setCell ⟨g, 0, none⟩ y0).setCell ⟨g, 1, none⟩ y1).setCell ⟨g, 2, none⟩ y2).heap[g]? = some (.cells #[y0, y1, y2, x3] t (0, 0)) := by
  simp [World.setCell, Array.getElem?_modify, h]
theorem ix_step (l : List UInt8) (m : Nat) (h : m < l.length) : ixL (l.drop m) = if (l[m].toNat : Int) = 45 then 0 else ixL (l.drop (m + 1)) + 1 := by
  rw [List.drop_eq_getElem_cons h, ixL]
theorem first_oct (s : ByteArray) (h : 0 < s.size) : s.data.toList = s[0] :: s.data.toList.drop 1 := bytes_cons s h

set_option maxHeartbeats 3200000 in
set_option maxRecDepth 100000 in
theorem refsplit_any (s : ByteArray) (w : World) (hs : s.size ≤ 1000000000) :
    Calls Tryz.prog 57 #[.string s] w (SplitOut s.data.toList (.bool (okV s.data.toList)) w) := by
  have hm9 : s.size ≤ 9223372036854775807 := by omega
  obtain ⟨wA, hwA⟩ : ∃ wA, wA = (w.alloc (.cells zeroV4 81)).alloc (.cells zeroV4 81) := ⟨_, rfl⟩
  obtain ⟨zA, vA, bA⟩ := two_rows w
  rw [← hwA] at zA vA bA
  have ZA := Lib.hid zA; have VA := Lib.hid vA; have BA := Lib.hid bA; clear zA vA bA
  by_cases h0 : 0 < s.size
  · have hz : (s.size : Int) ≠ 0 := by omega
    obtain ⟨r, hr⟩ : ∃ r, r = s.data.toList.drop 1 := ⟨_, rfl⟩
    have hl := first_oct s h0
    rw [← hr] at hl
    have hsz : s.size = r.length + 1 := by rw [Lib.size_eq, hl, List.length_cons]
    by_cases h1 : (s[0].toNat : Int) = 118
    · have h118 : ((s[0].toNat : Int) != 118) = false := by simpa using h1
      have hzb : ((s.size : Int) == 0) = false := by simpa using hz
      have e118 : s[0] = 118 := by rw [← UInt8.toNat_inj]; have : (118 : UInt8).toNat = 118 := rfl
                                   omega
      rw [e118] at hl
      obtain ⟨I, hI⟩ : ∃ I, ixL r = I := ⟨_, rfl⟩
      have hIle : I ≤ r.length := by rw [← hI]; exact ixL_le r
      have hixl : ixL s.data.toList = I + 1 := by rw [hl, ixL, if_neg (by decide), hI]
      have HL := Lib.hid hl; have HSZ := Lib.hid hsz; have HI := Lib.hid hI; have HIX := Lib.hid hixl; have HILE := Lib.hid hIle; have HS := Lib.hid hs
      clear hl hsz hI hixl hIle hs e118 h1 hr hz
      go_enter Tryz.func57, Tryz.ntmps57
      go_wp2
      go_loop [5, 6] (fun c i => ∃ k cc : Nat, k ≤ s.size ∧ c = .int .i64 cc ∧ Hid (cc = k + ixL (s.data.toList.drop k)) ∧ ((k = 0 ∧ i = .int .i64 (-1)) ∨ ∃ m : Nat, k = m + 1 ∧ i = .int .i64 m)) (fun _ i => (intOf i + 1).toNat)
      case atStart => exact ⟨s.size, s.size, Nat.le_refl _, rfl, Lib.hid (by rw [drop_end s _ (Nat.le_refl _)]; rfl), .inr ⟨s.size - 1, by omega, by congr 1; omega⟩⟩
      case round =>
        obtain ⟨k, cc, hk, rfl, HC, hcase⟩ := hrel
        rcases hcase with ⟨rfl, rfl⟩ | ⟨m, rfl, rfl⟩
        · have hcc : cc = I + 1 := by have := HC.out; rw [List.drop_zero, HIX.out] at this; omega
          subst hcc
          clear HC
          obtain ⟨ls, hls⟩ : ∃ ls, splitL 46 (r.take I) = ls := ⟨_, rfl⟩
          have hq : (s.extract 1 (I + 1)).data.toList = r.take I := by rw [strV_mk, mkB_list, HL.out]; simp
          have hqs : (s.extract 1 (I + 1)).size ≤ 1000000000 := by rw [strV_mk, mkB_size]; have := HS.out; have h2 := Lib.size_eq s; simp; omega
          have HQ := Lib.hid hq; have HQS := Lib.hid hqs; clear hq hqs
          have hsp : splitV s.data.toList = if ls.length = 3 ∧ fitL (cutV r) = true then some (cutV r) else none := by
            rw [HL.out, splitV, HI.out, hls]; simp
          have i1 : (0 : Int) ≤ (I : Int) := by omega
          have i2 : (1 : Int) ≤ (I : Int) + 1 := by omega
          have i3 : (I : Int) + 1 ≤ (s.size : Int) := by have := HILE.out; have := HSZ.out; omega
          have i4 : ((I : Int) + 1).toNat = I + 1 := by omega
          by_cases h3 : ls.length = 3
          · match ls, h3 with
            | [x, y, z], _ =>
            have hcv : cutV r = (x, y, z, if I < r.length then splitL 46 (r.drop (I + 1)) else []) := by unfold cutV; rw [HI.out, hls]; rfl
            have hp : ∀ q ∈ [x, y, z], q.length ≤ 1000000000 := fun q hq => by
              rw [← hls] at hq
              have h2 := split_le 46 _ q hq
              have h4 := List.length_take_le' I r
              have := HSZ.out; have := HS.out
              omega
            have SX : Hid ((mkB x).size ≤ 1000000000) := Lib.hid (by rw [mkB_size]; exact hp x (by simp))
            have SY : Hid ((mkB y).size ≤ 1000000000) := Lib.hid (by rw [mkB_size]; exact hp y (by simp))
            have SZ : Hid ((mkB z).size ≤ 1000000000) := Lib.hid (by rw [mkB_size]; exact hp z (by simp))
            clear hp
            obtain ⟨mx, hmx⟩ : ∃ m, mayL x = m := ⟨_, rfl⟩
            obtain ⟨my, hmy⟩ : ∃ m, mayL y = m := ⟨_, rfl⟩
            obtain ⟨mz, hmz⟩ : ∃ m, mayL z = m := ⟨_, rfl⟩
            have MX := Lib.hid hmx; have MY := Lib.hid hmy; have MZ := Lib.hid hmz; clear hmx hmy hmz
            have HLS := Lib.hid hls; have HCV := Lib.hid hcv; clear hls hcv
            by_cases hall : mx = true ∧ my = true ∧ mz = true
            · obtain ⟨rfl, rfl, rfl⟩ := hall
              have hfit : fitL (cutV r) = (cutV r).2.2.2.all wordL := by unfold fitL; rw [HCV.out]; simp [MX.out, MY.out, MZ.out]
              obtain ⟨f, hf⟩ : ∃ f, (cutV r).2.2.2.all wordL = f := ⟨_, rfl⟩
              rw [hf] at hfit
              have ho : okV s.data.toList = f := by unfold okV; rw [hsp, hfit]; cases f <;> rfl
              have HVO : Hid (verOf s.data.toList = if f = true then cutV r else ([], [], [], [])) := Lib.hid (by unfold verOf; rw [hsp, hfit]; cases f <;> rfl)
              have HO := Lib.hid ho; have HF := Lib.hid hf; clear ho hf hfit hsp
              go_wp2_with (first
                | (go_at_call 55; refine (refparts_l _ _ HQ.out _ HQS.out).mono ?_; rintro e w1 ⟨a, c, rfl, hst, _, hb1⟩; have Z1 := Lib.hid (row_keep (two_rows w).1 hb1); have V1 := Lib.hid (row_keep (two_rows w).2.1 hb1); have B1 := Lib.hid (bel_step (two_rows w).2.2 hb1); clear hb1; rw [HLS.out] at hst ⊢; obtain ⟨b, off, rfl, hbl, k0⟩ := strs_at hst 0 (by simp); obtain ⟨b', off', hab, _, k1⟩ := strs_at hst 1 (by simp); obtain ⟨b'', off'', hab2, _, k2⟩ := strs_at hst 2 (by simp); injection hab with hab; injection hab with hab hof; subst hab hof; injection hab2 with hab2; injection hab2 with hab2 hof; subst hab2 hof; clear hst; replace k0 : w1.cell? ⟨b, off, none⟩ = some (.string (mkB x)) := k0; replace k1 : w1.cell? ⟨b, off + 1, none⟩ = some (.string (mkB y)) := k1; replace k2 : w1.cell? ⟨b, off + 2, none⟩ = some (.string (mkB z)) := k2; obtain ⟨c0, c1, c2, c3, f0, f1, f2, f3⟩ := row4 Z1.out; obtain ⟨d0, d1, d2, d3, e0, e1, e2, e3⟩ := row4 V1.out; have n0 := World.new_ne w1 _ k0)
                | (go_at_call 68; refine (refmay_any _ _ (by first | exact SX.out | exact SY.out | exact SZ.out)).mono ?_; rintro e w' ⟨rfl, rfl⟩; rw [mkB_list]; first | rw [MX.out] | rw [MY.out] | rw [MZ.out]))
              go_region
              obtain ⟨wB, hwB⟩ : ∃ wB, wB = (((w1.setCell ⟨w.heap.size + 1, 0, none⟩ (.string (mkB x))).setCell ⟨w.heap.size + 1, 1, none⟩ (.string (mkB y))).setCell ⟨w.heap.size + 1, 2, none⟩ (.string (mkB z))).drew := ⟨_, rfl⟩
              rw [← hwB]
              have rB : wB.heap[w.heap.size + 1]? = some (.cells #[.string (mkB x), .string (mkB y), .string (mkB z), .slice none 0 0] 81) := by rw [hwB]; exact row4_set012 V1.out _ _ _
              have zB : wB.heap[w.heap.size]? = some (.cells zeroV4 81) := by rw [hwB]; exact row_far (row_far (row_far Z1.out (by omega) _) (by omega) _) (by omega) _
              have bB : Bel w.heap.size w wB := by rw [hwB]; exact bel_step (((B1.out.setCell (Nat.le_succ _) _).setCell (Nat.le_succ _) _).setCell (Nat.le_succ _) _) (bel_q ⟨1, rfl⟩)
              have hle : w.heap.size + 1 < wB.heap.size := (Array.getElem?_eq_some_iff.1 rB).1
              have RB := Lib.hid rB; have ZB := Lib.hid zB; have BB := Lib.hid bB; have HLE := Lib.hid hle
              clear rB zB bB hle hwB k0 k1 k2 n0 c0 c1 c2 c3 f0 f1 f2 f3 d0 d1 d2 d3 e0 e1 e2 e3 hbl
              by_cases hm : I < r.length
              · have hcut : (((I : Int) + 1) == (s.size : Int)) = false := by rw [beq_eq_false_iff_ne]; have := HSZ.out; omega
                obtain ⟨pre, hpre⟩ : ∃ pre, splitL 46 (r.drop (I + 1)) = pre := ⟨_, rfl⟩
                have HPR := Lib.hid hpre
                have HCW : Hid (cutV r = (x, y, z, pre)) := Lib.hid (by rw [HCV.out, if_pos hm, hpre])
                have hq2 : (s.extract (I + 1 + 1) s.size).data.toList = r.drop (I + 1) := by
                  rw [strV_mk, mkB_list, HL.out, List.drop_succ_cons, List.take_of_length_le]
                  have := HSZ.out; rw [List.length_drop]; omega
                have hqs2 : (s.extract (I + 1 + 1) s.size).size ≤ 1000000000 := by rw [Lib.size_eq, hq2, List.length_drop]; have := HSZ.out; have := HS.out; omega
                have hsp2 : ∀ q ∈ pre, q.length ≤ 1000000000 := fun q hq => by
                  rw [← hpre] at hq
                  have h2 := split_le 46 _ q hq
                  rw [List.length_drop] at h2; have := HSZ.out; have := HS.out; omega
                have hn2 : pre.length ≤ 1000000000 := by
                  rw [← hpre]; have h2 := splitL_len 46 (r.drop (I + 1)); rw [List.length_drop] at h2; have := HSZ.out; have := HS.out; omega
                have HQ2 := Lib.hid hq2; have HQS2 := Lib.hid hqs2; have HSP2 := Lib.hid hsp2; have HN2 := Lib.hid hn2
                have i5 : (0 : Int) ≤ (I : Int) + 1 + 1 := by omega
                have i6 : (I : Int) + 1 + 1 ≤ (s.size : Int) := by have := HSZ.out; omega
                have i7 : ((I : Int) + 1 + 1).toNat = I + 1 + 1 := by omega
                clear hq2 hqs2 hsp2 hm hpre
                go_wp2_with (first
                  | (go_at_call 55; refine (refparts_l _ _ HQ2.out _ HQS2.out).mono ?_; rintro e w2 ⟨a2, c2, rfl, hst2, hfr2, hb2⟩; rw [HPR.out] at hst2 ⊢; have R2 := Lib.hid (row_keep RB.out hb2); have Z2 := Lib.hid (row_keep ZB.out hb2); have B2 := Lib.hid (bel_step BB.out hb2); have FR := Lib.hid hfr2; have ST2 := Lib.hid hst2; clear hst2 hfr2 hb2; obtain ⟨c0, c1, c2', c3, f0, f1, f2, f3⟩ := row4 R2.out))
                obtain ⟨wC, hwC⟩ : ∃ wC, wC = w2.setCell ⟨w.heap.size + 1, 3, none⟩ (.slice a2 pre.length c2) := ⟨_, rfl⟩
                rw [← hwC]
                have rC : wC.heap[w.heap.size + 1]? = some (.cells #[.string (mkB x), .string (mkB y), .string (mkB z), (.slice a2 pre.length c2)] 81) := by rw [hwC]; exact row4_set3 R2.out _
                have zC : wC.heap[w.heap.size]? = some (.cells zeroV4 81) := by rw [hwC]; exact row_far Z2.out (by omega) _
                have bC : Bel w.heap.size w wC := by rw [hwC]; exact B2.out.setCell (Nat.le_succ _) _
                have sC : Strs wC (.slice a2 pre.length c2) pre := by rw [hwC]; exact ST2.out.far (fun ad ha => by have := FR.out ad ha; have := HLE.out; omega)
                clear hwC c0 c1 c2' c3 f0 f1 f2 f3
                have RC := Lib.hid rC; have ZC := Lib.hid zC; have BC := Lib.hid bC; have SC := Lib.hid sC
                obtain ⟨c0, c1, c2', c3, f0, f1, f2, f3⟩ := row4 zC
                obtain ⟨d0, d1, d2, d3, e0, e1, e2, e3⟩ := row4 rC
                clear rC zC bC sC
                go_loop [8] (fun i => ∃ k : Nat, k ≤ pre.length ∧ i = .int .i64 k ∧ Hid ((pre.take k).all wordL = true)) (fun i => pre.length - (intOf i).toNat)
                case atStart => exact ⟨0, Nat.zero_le _, rfl, Lib.hid (by simp)⟩
                case round =>
                  obtain ⟨k, hk, rfl, HT⟩ := hrel
                  by_cases hlt : k < pre.length
                  · obtain ⟨b2, off2, ha, hbl, hcell⟩ := strs_at SC.out k hlt
                    subst ha
                    have HSQ : Hid ((mkB (pre.getD k [])).size ≤ 1000000000) := Lib.hid (by rw [mkB_size]; exact HSP2.out _ (mem_getD hlt))
                    have HLT := Lib.hid hlt
                    obtain ⟨q, hq⟩ : ∃ q, q = pre.getD k [] := ⟨_, rfl⟩
                    rw [← hq] at hcell HSQ
                    obtain ⟨m, hm⟩ : ∃ m, wordL q = m := ⟨_, rfl⟩
                    have HM := Lib.hid hm; have HQ := Lib.hid hq; clear hm hq hbl
                    cases m
                    · have hft : f = false := by
                        rw [← HF.out, HCW.out, List.all_eq_false]
                        exact ⟨q, by rw [HQ.out]; exact mem_getD HLT.out, by rw [HM.out]; simp⟩
                      subst hft
                      go_wp2_with (go_at_call 69; refine (refword_any _ _ HSQ.out).mono ?_; rintro e w' ⟨rfl, rfl⟩; rw [mkB_list, HM.out])
                      try simp only [Exit.inBlock, Exit.then]
                      exact bodyPost_ret (v := .tuple #[.agg zeroV4, .bool false]) (results_cell_tmp (fn := Tryz.f57) (p := 2) (q := 3) (ty := 81) rfl _ _ w.heap.size 81 zeroV4 (0, 0) _ rfl (row4_set ZC.out _ _ _ _) Tryz.underlying81 rfl Tryz.size_ver) rfl ⟨_, by rw [HO.out], by rw [(by simpa using HVO.out : verOf s.data.toList = ([], [], [], []))]; exact verin_zero _, fresh_zero _, (((BC.out.setCell (Nat.le_refl _) _).setCell (Nat.le_refl _) _).setCell (Nat.le_refl _) _).setCell (Nat.le_refl _) _⟩
                    · go_wp2_with (go_at_call 69; refine (refword_any _ _ HSQ.out).mono ?_; rintro e w' ⟨rfl, rfl⟩; rw [mkB_list, HM.out])
                      go_round
                      case rel => exact ⟨k + 1, by omega, by go_num, Lib.hid (all_take_succ HLT.out HT.out (by rw [← HQ.out]; exact HM.out))⟩
                      case measure => simp [intOf]; omega
                  · have hall : pre.all wordL = true := by have h5 := HT.out; rw [List.take_of_length_le (by omega)] at h5; exact h5
                    have hft : f = true := by rw [← HF.out, HCW.out]; exact hall
                    subst hft
                    clear hall
                    go_wp2
                    try simp only [Exit.inBlock, Exit.then]
                    exact bodyPost_ret (v := .tuple #[.agg #[.string (mkB x), .string (mkB y), .string (mkB z), (.slice a2 pre.length c2)], .bool true]) (results_cell_tmp (fn := Tryz.f57) (p := 2) (q := 3) (ty := 81) rfl _ _ w.heap.size 81 #[.string (mkB x), .string (mkB y), .string (mkB z), (.slice a2 pre.length c2)] (0, 0) _ rfl (row4_set ZC.out _ _ _ _) Tryz.underlying81 rfl Tryz.size_ver) rfl ⟨_, by rw [HO.out], by rw [(by simpa using HVO.out : verOf s.data.toList = cutV r), HCW.out]; exact ⟨⟨_, _, rfl, ((((SC.out.far (fun ad ha => by have := FR.out ad ha; have := HLE.out; omega)).far (fun ad ha => by have := FR.out ad ha; have := HLE.out; omega)).far (fun ad ha => by have := FR.out ad ha; have := HLE.out; omega)).far (fun ad ha => by have := FR.out ad ha; have := HLE.out; omega))⟩⟩, (fresh_slice _ _ _ fun ad ha => by have := FR.out ad ha; have := HLE.out; omega), (((BC.out.setCell (Nat.le_refl _) _).setCell (Nat.le_refl _) _).setCell (Nat.le_refl _) _).setCell (Nat.le_refl _) _⟩
              · have hcut : (((I : Int) + 1) == (s.size : Int)) = true := by rw [beq_iff_eq]; have := HSZ.out; have := HILE.out; omega
                have HCW : Hid (cutV r = (x, y, z, [])) := Lib.hid (by rw [HCV.out, if_neg hm])
                have hft : f = true := by rw [← HF.out, HCW.out]; rfl
                subst hft
                clear hm
                obtain ⟨c0, c1, c2, c3, f0, f1, f2, f3⟩ := row4 ZB.out
                obtain ⟨d0, d1, d2, d3, e0, e1, e2, e3⟩ := row4 RB.out
                go_wp2
                try simp only [Exit.inBlock, Exit.then]
                exact bodyPost_ret (v := .tuple #[.agg #[.string (mkB x), .string (mkB y), .string (mkB z), .slice none 0 0], .bool true]) (results_cell_tmp (fn := Tryz.f57) (p := 2) (q := 3) (ty := 81) rfl _ _ w.heap.size 81 #[.string (mkB x), .string (mkB y), .string (mkB z), .slice none 0 0] (0, 0) _ rfl (row4_set ZB.out _ _ _ _) Tryz.underlying81 rfl Tryz.size_ver) rfl ⟨_, by rw [HO.out], by rw [(by simpa using HVO.out : verOf s.data.toList = cutV r), HCW.out]; exact ⟨⟨_, _, rfl, strs_none _⟩⟩, fresh_none _ _ _ _, (((BB.out.setCell (Nat.le_refl _) _).setCell (Nat.le_refl _) _).setCell (Nat.le_refl _) _).setCell (Nat.le_refl _) _⟩
            · have hf : fitL (cutV r) = false := by
                cases e : fitL (cutV r)
                · rfl
                · have := fit_parts e; rw [HCV.out] at this; simp only [MX.out, MY.out, MZ.out] at this; exact absurd ⟨this.1, this.2.1, this.2.2.1⟩ hall
              have ho : okV s.data.toList = false := by unfold okV; rw [hsp, if_neg (by rw [hf]; simp)]; rfl
              have HVO := Lib.hid (verOf_no ho); have HO := Lib.hid ho
              clear hsp hf ho
              cases mx
              · go_wp2_with (first
                  | (go_at_call 55; refine (refparts_l _ _ HQ.out _ HQS.out).mono ?_; rintro e w1 ⟨a, c, rfl, hst, _, hb1⟩; have Z1 := Lib.hid (row_keep (two_rows w).1 hb1); have V1 := Lib.hid (row_keep (two_rows w).2.1 hb1); have B1 := Lib.hid (bel_step (two_rows w).2.2 hb1); clear hb1; rw [HLS.out] at hst ⊢; obtain ⟨b, off, rfl, hbl, k0⟩ := strs_at hst 0 (by simp); obtain ⟨b', off', hab, _, k1⟩ := strs_at hst 1 (by simp); obtain ⟨b'', off'', hab2, _, k2⟩ := strs_at hst 2 (by simp); injection hab with hab; injection hab with hab hof; subst hab hof; injection hab2 with hab2; injection hab2 with hab2 hof; subst hab2 hof; clear hst; replace k0 : w1.cell? ⟨b, off, none⟩ = some (.string (mkB x)) := k0; replace k1 : w1.cell? ⟨b, off + 1, none⟩ = some (.string (mkB y)) := k1; replace k2 : w1.cell? ⟨b, off + 2, none⟩ = some (.string (mkB z)) := k2; obtain ⟨c0, c1, c2, c3, f0, f1, f2, f3⟩ := row4 Z1.out; obtain ⟨d0, d1, d2, d3, e0, e1, e2, e3⟩ := row4 V1.out)
                  | (go_at_call 68; refine (refmay_any _ _ (by first | exact SX.out | exact SY.out | exact SZ.out)).mono ?_; rintro e w' ⟨rfl, rfl⟩; rw [mkB_list]; first | rw [MX.out] | rw [MY.out] | rw [MZ.out]))
                try simp only [Exit.inBlock, Exit.then]
                exact bodyPost_ret (v := .tuple #[.agg zeroV4, .bool false]) (results_cell_tmp (fn := Tryz.f57) (p := 2) (q := 3) (ty := 81) rfl _ _ w.heap.size 81 zeroV4 (0, 0) _ rfl (row4_set Z1.out _ _ _ _) Tryz.underlying81 rfl Tryz.size_ver) rfl ⟨_, by rw [HO.out], by rw [HVO.out]; exact verin_zero _, fresh_zero _, (((B1.out.setCell (Nat.le_refl _) _).setCell (Nat.le_refl _) _).setCell (Nat.le_refl _) _).setCell (Nat.le_refl _) _⟩
              · cases my
                · go_wp2_with (first
                    | (go_at_call 55; refine (refparts_l _ _ HQ.out _ HQS.out).mono ?_; rintro e w1 ⟨a, c, rfl, hst, _, hb1⟩; have Z1 := Lib.hid (row_keep (two_rows w).1 hb1); have V1 := Lib.hid (row_keep (two_rows w).2.1 hb1); have B1 := Lib.hid (bel_step (two_rows w).2.2 hb1); clear hb1; rw [HLS.out] at hst ⊢; obtain ⟨b, off, rfl, hbl, k0⟩ := strs_at hst 0 (by simp); obtain ⟨b', off', hab, _, k1⟩ := strs_at hst 1 (by simp); obtain ⟨b'', off'', hab2, _, k2⟩ := strs_at hst 2 (by simp); injection hab with hab; injection hab with hab hof; subst hab hof; injection hab2 with hab2; injection hab2 with hab2 hof; subst hab2 hof; clear hst; replace k0 : w1.cell? ⟨b, off, none⟩ = some (.string (mkB x)) := k0; replace k1 : w1.cell? ⟨b, off + 1, none⟩ = some (.string (mkB y)) := k1; replace k2 : w1.cell? ⟨b, off + 2, none⟩ = some (.string (mkB z)) := k2; obtain ⟨c0, c1, c2, c3, f0, f1, f2, f3⟩ := row4 Z1.out; obtain ⟨d0, d1, d2, d3, e0, e1, e2, e3⟩ := row4 V1.out)
                    | (go_at_call 68; refine (refmay_any _ _ (by first | exact SX.out | exact SY.out | exact SZ.out)).mono ?_; rintro e w' ⟨rfl, rfl⟩; rw [mkB_list]; first | rw [MX.out] | rw [MY.out] | rw [MZ.out]))
                  try simp only [Exit.inBlock, Exit.then]
                  exact bodyPost_ret (v := .tuple #[.agg zeroV4, .bool false]) (results_cell_tmp (fn := Tryz.f57) (p := 2) (q := 3) (ty := 81) rfl _ _ w.heap.size 81 zeroV4 (0, 0) _ rfl (row4_set Z1.out _ _ _ _) Tryz.underlying81 rfl Tryz.size_ver) rfl ⟨_, by rw [HO.out], by rw [HVO.out]; exact verin_zero _, fresh_zero _, (((B1.out.setCell (Nat.le_refl _) _).setCell (Nat.le_refl _) _).setCell (Nat.le_refl _) _).setCell (Nat.le_refl _) _⟩
                · cases mz
                  · go_wp2_with (first
                      | (go_at_call 55; refine (refparts_l _ _ HQ.out _ HQS.out).mono ?_; rintro e w1 ⟨a, c, rfl, hst, _, hb1⟩; have Z1 := Lib.hid (row_keep (two_rows w).1 hb1); have V1 := Lib.hid (row_keep (two_rows w).2.1 hb1); have B1 := Lib.hid (bel_step (two_rows w).2.2 hb1); clear hb1; rw [HLS.out] at hst ⊢; obtain ⟨b, off, rfl, hbl, k0⟩ := strs_at hst 0 (by simp); obtain ⟨b', off', hab, _, k1⟩ := strs_at hst 1 (by simp); obtain ⟨b'', off'', hab2, _, k2⟩ := strs_at hst 2 (by simp); injection hab with hab; injection hab with hab hof; subst hab hof; injection hab2 with hab2; injection hab2 with hab2 hof; subst hab2 hof; clear hst; replace k0 : w1.cell? ⟨b, off, none⟩ = some (.string (mkB x)) := k0; replace k1 : w1.cell? ⟨b, off + 1, none⟩ = some (.string (mkB y)) := k1; replace k2 : w1.cell? ⟨b, off + 2, none⟩ = some (.string (mkB z)) := k2; obtain ⟨c0, c1, c2, c3, f0, f1, f2, f3⟩ := row4 Z1.out; obtain ⟨d0, d1, d2, d3, e0, e1, e2, e3⟩ := row4 V1.out)
                      | (go_at_call 68; refine (refmay_any _ _ (by first | exact SX.out | exact SY.out | exact SZ.out)).mono ?_; rintro e w' ⟨rfl, rfl⟩; rw [mkB_list]; first | rw [MX.out] | rw [MY.out] | rw [MZ.out]))
                    try simp only [Exit.inBlock, Exit.then]
                    exact bodyPost_ret (v := .tuple #[.agg zeroV4, .bool false]) (results_cell_tmp (fn := Tryz.f57) (p := 2) (q := 3) (ty := 81) rfl _ _ w.heap.size 81 zeroV4 (0, 0) _ rfl (row4_set Z1.out _ _ _ _) Tryz.underlying81 rfl Tryz.size_ver) rfl ⟨_, by rw [HO.out], by rw [HVO.out]; exact verin_zero _, fresh_zero _, (((B1.out.setCell (Nat.le_refl _) _).setCell (Nat.le_refl _) _).setCell (Nat.le_refl _) _).setCell (Nat.le_refl _) _⟩
                  · exact absurd ⟨rfl, rfl, rfl⟩ hall
          · have hne : ((ls.length : Int) != 3) = true := by simp; omega
            have ho : okV s.data.toList = false := by unfold okV; rw [hsp, if_neg (fun h => h3 h.1)]; rfl
            have HVO := Lib.hid (verOf_no ho); have HLS := Lib.hid hls; have HO := Lib.hid ho
            clear hsp h3 hls ho
            go_wp2_with (first
              | (go_at_call 55; refine (refparts_l _ _ HQ.out _ HQS.out).mono ?_; rintro e w1 ⟨a, c, rfl, hst, _, hb1⟩; have Z1 := Lib.hid (row_keep (two_rows w).1 hb1); have V1 := Lib.hid (row_keep (two_rows w).2.1 hb1); have B1 := Lib.hid (bel_step (two_rows w).2.2 hb1); clear hb1; rw [HLS.out] at hst ⊢; clear hst; obtain ⟨c0, c1, c2, c3, f0, f1, f2, f3⟩ := row4 Z1.out; obtain ⟨d0, d1, d2, d3, e0, e1, e2, e3⟩ := row4 V1.out))
            try simp only [Exit.inBlock, Exit.then]
            exact bodyPost_ret (v := .tuple #[.agg zeroV4, .bool false]) (results_cell_tmp (fn := Tryz.f57) (p := 2) (q := 3) (ty := 81) rfl _ _ w.heap.size 81 zeroV4 (0, 0) _ rfl (row4_set Z1.out _ _ _ _) Tryz.underlying81 rfl Tryz.size_ver) rfl ⟨_, by rw [HO.out], by rw [HVO.out]; exact verin_zero _, fresh_zero _, (((B1.out.setCell (Nat.le_refl _) _).setCell (Nat.le_refl _) _).setCell (Nat.le_refl _) _).setCell (Nat.le_refl _) _⟩
        · have hml : m < s.size := by omega
          have hst := ix_step s.data.toList m (by rw [← Lib.size_eq]; exact hml)
          have hix : (s.data.toList[m]'(by rw [← Lib.size_eq]; exact hml)).toNat = s[m].toNat := rfl
          rw [hix] at hst
          have HST := Lib.hid hst; clear hst hix
          by_cases h45 : (s[m].toNat : Int) = 45
          · have hb : ((s[m].toNat : Int) == 45) = true := by simpa using h45
            have H45 := Lib.hid h45; clear h45
            go_wp2
            go_round
            case rel => exact ⟨m, m, by omega, rfl, Lib.hid (by rw [HST.out, if_pos H45.out]; rfl), by rcases Nat.eq_zero_or_pos m with e | e; exact .inl ⟨e, by subst e; rfl⟩; exact .inr ⟨m - 1, by omega, by congr 1; omega⟩⟩
            case measure => simp [intOf]
          · have hb : ((s[m].toNat : Int) == 45) = false := by simpa using h45
            have H45 := Lib.hid h45; clear h45
            go_wp2
            go_round
            case rel => exact ⟨m, cc, by omega, rfl, Lib.hid (by rw [HST.out, if_neg H45.out]; have := HC.out; omega), by rcases Nat.eq_zero_or_pos m with e | e; exact .inl ⟨e, by subst e; rfl⟩; exact .inr ⟨m - 1, by omega, by congr 1; omega⟩⟩
            case measure => simp [intOf]
    · have h118 : ((s[0].toNat : Int) != 118) = true := by simpa using h1
      have hok : splitV s.data.toList = none := by rw [hl, splitV, if_neg (fun h => h1 h.1)]
      have ho : okV s.data.toList = false := by unfold okV; rw [hok]; rfl
      rw [ho]
      have HVO := Lib.hid (verOf_no ho)
      clear hok ho hl hr h1 hsz
      have hzb : ((s.size : Int) == 0) = false := by simpa using hz
      go_enter Tryz.func57, Tryz.ntmps57
      go_wp2
      try simp only [Exit.inBlock, Exit.then]
      exact bodyPost_ret (v := .tuple #[.agg zeroV4, .bool false]) (results_cell_tmp (fn := Tryz.f57) (p := 2) (q := 3) (ty := 81) rfl _ _ w.heap.size 81 zeroV4 (0, 0) _ rfl (two_rows w).1 Tryz.underlying81 rfl Tryz.size_ver) rfl ⟨_, rfl, by rw [HVO.out]; exact verin_zero _, fresh_zero _, (two_rows w).2.2⟩
  · have hz : s.size = 0 := by omega
    have ho : okV s.data.toList = false := by
      have : s.data.toList = [] := List.eq_nil_of_length_eq_zero (by rw [← Lib.size_eq]; exact hz)
      rw [this]; rfl
    rw [ho]
    have HVO := Lib.hid (verOf_no ho)
    clear ho
    have hzb : ((s.size : Int) == 0) = true := by rw [hz]; rfl
    go_enter Tryz.func57, Tryz.ntmps57
    go_wp2
    try simp only [Exit.inBlock, Exit.then]
    exact bodyPost_ret (v := .tuple #[.agg zeroV4, .bool false]) (results_cell_tmp (fn := Tryz.f57) (p := 2) (q := 3) (ty := 81) rfl _ _ w.heap.size 81 zeroV4 (0, 0) _ rfl (two_rows w).1 Tryz.underlying81 rfl Tryz.size_ver) rfl ⟨_, rfl, by rw [HVO.out]; exact verin_zero _, fresh_zero _, (two_rows w).2.2⟩
end Go.Proofs.YtglhjdbnpdoinaaGreat
