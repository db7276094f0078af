/- Version's order: the library's order of two slices, by numbers and by words. -/
import Derived.Test.YtglhjdbnpdoinaaGreatVerD
namespace Go.Proofs.YtglhjdbnpdoinaaGreat
open Go.RowKit
set_option maxRecDepth 100000

def numC (a b : List UInt8) : Int := (cmpE a b).1
theorem numC_may {a b : List UInt8} (ha : mayL a = true) (hb : mayL b = true) : numC a b = cmpN a b := by unfold numC; rw [cmpE_ok ha hb]
theorem numC_vals (a b : List UInt8) : -1 ≤ numC a b ∧ numC a b ≤ 1 := by
  unfold numC cmpE
  split
  · exact cmpN_bd a b
  · decide
theorem wordC_vals (a b : List UInt8) : -1 ≤ wordC a b ∧ wordC a b ≤ 1 := by have := ord_W.vals a b; omega

set_option maxHeartbeats 400000 in
theorem ordnum_any (a b : List UInt8) (w : World) (ha : a.length ≤ 1000000000) (hb : b.length ≤ 1000000000) :
    Calls Tryz.prog 102 #[.string (mkB a), .string (mkB b)] w fun e w' => e = .returned (.int .i64 (numC a b)) ∧ Bel w.heap.size w w' := by
  have HA : Hid ((mkB a).size ≤ maxLen) := Lib.hid (by rw [mkB_size]; unfold maxLen; omega)
  have HB : Hid ((mkB b).size ≤ maxLen) := Lib.hid (by rw [mkB_size]; unfold maxLen; omega)
  clear ha hb
  go_enter Tryz.func102, Tryz.ntmps102
  go_wp2_with (go_at_call 121; refine (cmpnum_any _ _ _ HA.out HB.out).mono ?_; rintro e w1 ⟨rfl, hb1⟩; rw [mkB_list, mkB_list])
  go_ret
  exact ⟨rfl, by assumption⟩

set_option maxHeartbeats 800000 in
theorem ordword_any (a b : List UInt8) (w : World) (ha : a.length ≤ 1000000000) (hb : b.length ≤ 1000000000) :
    Calls Tryz.prog 104 #[.string (mkB a), .string (mkB b)] w fun e w' => e = .returned (.int .i64 (wordC a b)) ∧ Bel w.heap.size w w' := by
  have HA : Hid ((mkB a).size ≤ maxLen) := Lib.hid (by rw [mkB_size]; unfold maxLen; omega)
  have HB : Hid ((mkB b).size ≤ maxLen) := Lib.hid (by rw [mkB_size]; unfold maxLen; omega)
  have SA := Lib.hid ha; have SB := Lib.hid hb
  clear ha hb
  obtain ⟨x, hx⟩ : ∃ x, mayL a = x := ⟨_, rfl⟩
  obtain ⟨y, hy⟩ : ∃ y, mayL b = y := ⟨_, rfl⟩
  have hw : wordC a b = if x = true then (if y = true then numC a b else -1) else (if y = true then 1 else Lib.compareBytes a b) := by
    unfold wordC; rw [hx, hy]
    cases x <;> cases y <;> simp
    exact (numC_may hx hy).symm
  have HX := Lib.hid hx; have HY := Lib.hid hy; have HW := Lib.hid hw; clear hx hy hw
  have B0 := Bel.refl w.heap.size w
  cases x <;> cases y
  all_goals
    go_enter Tryz.func104, Tryz.ntmps104
    go_wp2_with (first
      | (go_at_call 108; refine (may_any _ _ (by first | exact HA.out | exact HB.out)).mono ?_; rintro e w1 ⟨rfl, hb1⟩; have B1 := bel_step (by assumption) hb1; clear hb1; rw [mkB_list]; first | rw [HX.out] | rw [HY.out])
      | (go_at_call 102; refine (ordnum_any _ _ _ SA.out SB.out).mono ?_; rintro e w3 ⟨rfl, hb3⟩; have B3 := bel_step (by assumption) hb3; clear hb3)
      | (go_at_call 76; refine (cmp_any _ _ _).mono ?_; rintro e w4 ⟨rfl, rfl⟩; rw [mkB_list, mkB_list]))
    go_ret
    exact ⟨ret_int (by rw [HW.out]; simp), by assumption⟩

theorem lexI_step (c : List UInt8 → List UInt8 → Int) (a b : List (List UInt8)) (k : Nat) (ha : k < a.length) (hb : k < b.length) :
    lexI c (a.drop k) (b.drop k) = if c (a.getD k []) (b.getD k []) ≠ 0 then c (a.getD k []) (b.getD k []) else lexI c (a.drop (k + 1)) (b.drop (k + 1)) := by
  have e1 : a.getD k [] = a[k] := by simp [List.getD_eq_getElem?_getD, List.getElem?_eq_getElem ha]
  have e2 : b.getD k [] = b[k] := by simp [List.getD_eq_getElem?_getD, List.getElem?_eq_getElem hb]
  rw [e1, e2, List.drop_eq_getElem_cons ha, List.drop_eq_getElem_cons hb, lexI]
theorem lexI_long (c : List UInt8 → List UInt8 → Int) (a b : List (List UInt8)) (k : Nat) (ha : k < a.length) (hb : b.length ≤ k) : lexI c (a.drop k) (b.drop k) = 1 := by
  rw [List.drop_eq_getElem_cons ha, List.drop_eq_nil_of_le hb, lexI]
theorem lexI_end (c : List UInt8 → List UInt8 → Int) (a b : List (List UInt8)) (k : Nat) (ha : a.length = k) : lexI c (a.drop k) (b.drop k) = if k < b.length then -1 else 0 := by
  rw [List.drop_eq_nil_of_le (by omega)]
  split
  · rename_i h; rw [List.drop_eq_getElem_cons h, lexI]
  · rename_i h; rw [List.drop_eq_nil_of_le (by omega), lexI]

set_option maxHeartbeats 1600000 in
set_option maxRecDepth 100000 in
theorem cmpfnum_any (u v : Value) (a b : List (List UInt8)) (w : World) (ha : Strs w u a) (hb : Strs w v b) (sa : ∀ l ∈ a, l.length ≤ 1000000000) (sb : ∀ l ∈ b, l.length ≤ 1000000000) :
    Calls Tryz.prog 101 #[u, v, .func (.func 102) #[] #[]] w fun e w' => e = .returned (.int .i64 (lexI numC a b)) ∧ Bel w.heap.size w w' := by
  obtain ⟨pa, ca, rfl, ha1, ha2, _, _⟩ := ha.ex
  obtain ⟨pb, cb, rfl, hb1, hb2, _, _⟩ := hb.ex
  unfold maxLen at ha2 hb2
  have HA := Lib.hid ha; have HB := Lib.hid hb; have SA := Lib.hid sa; have SB := Lib.hid sb
  clear ha hb sa sb
  obtain ⟨T, hT⟩ : ∃ T, lexI numC a b = T := ⟨_, rfl⟩
  rw [hT]
  have HT := Lib.hid hT; clear hT
  go_enter Tryz.func101, Tryz.ntmps101
  go_wp2
  go_loopw [13] (fun i wr => ∃ k : Nat, k ≤ a.length ∧ i = .int .i64 k ∧ Hid (lexI numC (a.drop k) (b.drop k) = T) ∧ Hid (Bel w.heap.size w wr)) (fun i _ => a.length - (intOf i).toNat)
  case atStart => exact ⟨0, Nat.zero_le _, rfl, Lib.hid (by rw [List.drop_zero, List.drop_zero]; exact HT.out), Lib.hid (Bel.refl _ _)⟩
  case round =>
    obtain ⟨k, hk, rfl, H, HL⟩ := hrel
    by_cases hlt : k < a.length
    · obtain ⟨ba, oa, hpa, hba, hca⟩ := strs_at HA.out k hlt
      subst hpa
      have hcell := (HL.out.cell hba).trans hca
      clear hca hba
      by_cases hlb : k < b.length
      · obtain ⟨bb, ob, hpb, hbb, hcb⟩ := strs_at HB.out k hlb
        subst hpb
        have hcell2 := (HL.out.cell hbb).trans hcb
        clear hcb hbb
        have hst := lexI_step numC a b k hlt hlb
        have HQ1 : Hid ((a.getD k []).length ≤ 1000000000) := Lib.hid (SA.out _ (mem_getD hlt))
        have HQ2 : Hid ((b.getD k []).length ≤ 1000000000) := Lib.hid (SB.out _ (mem_getD hlb))
        obtain ⟨x, hx⟩ : ∃ x, a.getD k [] = x := ⟨_, rfl⟩
        obtain ⟨y, hy⟩ : ∃ y, b.getD k [] = y := ⟨_, rfl⟩
        rw [hx] at hcell HQ1 hst
        rw [hy] at hcell2 HQ2 hst
        clear hx hy
        have hvv := numC_vals x y
        obtain ⟨z, hz⟩ : ∃ z, numC x y = z := ⟨_, rfl⟩
        rw [hz] at hst hvv
        have HST := Lib.hid hst; have HZ := Lib.hid hz
        clear hst hz
        obtain ⟨hv1, hv2⟩ := hvv
        by_cases h0 : z = 0
        · have hb0 : (z != 0) = false := by simpa using h0
          have H0 := Lib.hid h0; clear h0
          go_wp2_with (go_at_call 102; refine (ordnum_any x y _ HQ1.out HQ2.out).mono ?_; rintro e w2 ⟨rfl, hb2⟩; have HL' := Lib.hid (bel_step HL.out hb2); clear hb2; rw [HZ.out])
          go_roundw
          case rel => exact ⟨k + 1, by omega, by go_num, Lib.hid (by rw [← H.out, HST.out, if_neg (by have := H0.out; omega)]), HL'⟩
          case measure => simp [intOf]; omega
        · have hb0 : (z != 0) = true := by simpa using h0
          have H0 := Lib.hid h0; clear h0
          go_wp2_with (go_at_call 102; refine (ordnum_any x y _ HQ1.out HQ2.out).mono ?_; rintro e w2 ⟨rfl, hb2⟩; have HL' := Lib.hid (bel_step HL.out hb2); clear hb2; rw [HZ.out])
          go_ret
          exact ⟨ret_int (by rw [← H.out, HST.out, if_pos H0.out]), HL'.out⟩
      · have hle := lexI_long numC a b k hlt (by omega)
        have HE := Lib.hid hle; clear hle
        go_wp2
        go_ret
        exact ⟨ret_int (by rw [← H.out, HE.out]), HL.out⟩
    · have hle := lexI_end numC a b k (by omega)
      by_cases hlb : a.length < b.length
      · rw [if_pos (by omega)] at hle
        have HE := Lib.hid hle; clear hle
        go_wp2
        go_ret
        exact ⟨ret_int (by rw [← H.out, HE.out]), HL.out⟩
      · rw [if_neg (by omega)] at hle
        have HE := Lib.hid hle; clear hle
        go_wp2
        go_ret
        exact ⟨ret_int (by rw [← H.out, HE.out]), HL.out⟩

set_option maxHeartbeats 1600000 in
set_option maxRecDepth 100000 in
theorem cmpfword_any (u v : Value) (a b : List (List UInt8)) (w : World) (ha : Strs w u a) (hb : Strs w v b) (sa : ∀ l ∈ a, l.length ≤ 1000000000) (sb : ∀ l ∈ b, l.length ≤ 1000000000) :
    Calls Tryz.prog 101 #[u, v, .func (.func 104) #[] #[]] w fun e w' => e = .returned (.int .i64 (lexI wordC a b)) ∧ Bel w.heap.size w w' := by
  obtain ⟨pa, ca, rfl, ha1, ha2, _, _⟩ := ha.ex
  obtain ⟨pb, cb, rfl, hb1, hb2, _, _⟩ := hb.ex
  unfold maxLen at ha2 hb2
  have HA := Lib.hid ha; have HB := Lib.hid hb; have SA := Lib.hid sa; have SB := Lib.hid sb
  clear ha hb sa sb
  obtain ⟨T, hT⟩ : ∃ T, lexI wordC a b = T := ⟨_, rfl⟩
  rw [hT]
  have HT := Lib.hid hT; clear hT
  go_enter Tryz.func101, Tryz.ntmps101
  go_wp2
  go_loopw [13] (fun i wr => ∃ k : Nat, k ≤ a.length ∧ i = .int .i64 k ∧ Hid (lexI wordC (a.drop k) (b.drop k) = T) ∧ Hid (Bel w.heap.size w wr)) (fun i _ => a.length - (intOf i).toNat)
  case atStart => exact ⟨0, Nat.zero_le _, rfl, Lib.hid (by rw [List.drop_zero, List.drop_zero]; exact HT.out), Lib.hid (Bel.refl _ _)⟩
  case round =>
    obtain ⟨k, hk, rfl, H, HL⟩ := hrel
    by_cases hlt : k < a.length
    · obtain ⟨ba, oa, hpa, hba, hca⟩ := strs_at HA.out k hlt
      subst hpa
      have hcell := (HL.out.cell hba).trans hca
      clear hca hba
      by_cases hlb : k < b.length
      · obtain ⟨bb, ob, hpb, hbb, hcb⟩ := strs_at HB.out k hlb
        subst hpb
        have hcell2 := (HL.out.cell hbb).trans hcb
        clear hcb hbb
        have hst := lexI_step wordC a b k hlt hlb
        have HQ1 : Hid ((a.getD k []).length ≤ 1000000000) := Lib.hid (SA.out _ (mem_getD hlt))
        have HQ2 : Hid ((b.getD k []).length ≤ 1000000000) := Lib.hid (SB.out _ (mem_getD hlb))
        obtain ⟨x, hx⟩ : ∃ x, a.getD k [] = x := ⟨_, rfl⟩
        obtain ⟨y, hy⟩ : ∃ y, b.getD k [] = y := ⟨_, rfl⟩
        rw [hx] at hcell HQ1 hst
        rw [hy] at hcell2 HQ2 hst
        clear hx hy
        have hvv := wordC_vals x y
        obtain ⟨z, hz⟩ : ∃ z, wordC x y = z := ⟨_, rfl⟩
        rw [hz] at hst hvv
        have HST := Lib.hid hst; have HZ := Lib.hid hz
        clear hst hz
        obtain ⟨hv1, hv2⟩ := hvv
        by_cases h0 : z = 0
        · have hb0 : (z != 0) = false := by simpa using h0
          have H0 := Lib.hid h0; clear h0
          go_wp2_with (go_at_call 104; refine (ordword_any x y _ HQ1.out HQ2.out).mono ?_; rintro e w2 ⟨rfl, hb2⟩; have HL' := Lib.hid (bel_step HL.out hb2); clear hb2; rw [HZ.out])
          go_roundw
          case rel => exact ⟨k + 1, by omega, by go_num, Lib.hid (by rw [← H.out, HST.out, if_neg (by have := H0.out; omega)]), HL'⟩
          case measure => simp [intOf]; omega
        · have hb0 : (z != 0) = true := by simpa using h0
          have H0 := Lib.hid h0; clear h0
          go_wp2_with (go_at_call 104; refine (ordword_any x y _ HQ1.out HQ2.out).mono ?_; rintro e w2 ⟨rfl, hb2⟩; have HL' := Lib.hid (bel_step HL.out hb2); clear hb2; rw [HZ.out])
          go_ret
          exact ⟨ret_int (by rw [← H.out, HST.out, if_pos H0.out]), HL'.out⟩
      · have hle := lexI_long wordC a b k hlt (by omega)
        have HE := Lib.hid hle; clear hle
        go_wp2
        go_ret
        exact ⟨ret_int (by rw [← H.out, HE.out]), HL.out⟩
    · have hle := lexI_end wordC a b k (by omega)
      by_cases hlb : a.length < b.length
      · rw [if_pos (by omega)] at hle
        have HE := Lib.hid hle; clear hle
        go_wp2
        go_ret
        exact ⟨ret_int (by rw [← H.out, HE.out]), HL.out⟩
      · rw [if_neg (by omega)] at hle
        have HE := Lib.hid hle; clear hle
        go_wp2
        go_ret
        exact ⟨ret_int (by rw [← H.out, HE.out]), HL.out⟩

end Go.Proofs.YtglhjdbnpdoinaaGreat
