/- The document's element; slices.Equal at texts; a path's elements, whether a text is a path, and what elements are put together. -/
import Derived.Test.YtnngfcjfhhfafaaGreatPatA
import Derived.Test.YtnngfcjfhhfafaaGreatOctJ
import Derived.Deep.QuietTactic
import Derived.BigQuiet
namespace Go.Proofs.YtnngfcjfhhfafaaGreat
open Go.RowKit
set_option maxRecDepth 100000

set_option maxHeartbeats 1600000 in
theorem refelement_any (s : ByteArray) (w : World) (hs : s.size ≤ 1000000000) :
    Calls Tryz.prog 54 #[.string s] w fun e w' => e = .returned (.bool (elemB s.data.toList)) ∧ w = w' := by
  have hz := Lib.size_eq s
  have HZ := Lib.hid hz; clear hz
  rcases Nat.eq_zero_or_pos s.size with h0 | h0
  · have hb : ((s.size : Int) == 0) = true := by rw [beq_iff_eq]; omega
    have hel := elemB_nil (l := s.data.toList) (by rw [← HZ.out]; exact h0)
    have HE := Lib.hid hel; have H0 := Lib.hid h0; clear hel h0
    go_enter Tryz.func54, Tryz.ntmps54
    go_wp2
    go_ret
    exact ⟨ret_bool HE.out.symm, rfl⟩
  · have hb : ((s.size : Int) == 0) = false := by rw [beq_eq_false_iff_ne]; omega
    have hg0 := getD_at s 0 h0
    have hg1 := getD_at s (s.size - 1) (by omega)
    by_cases hd : s[0].toNat = 46
    · have hb0 : ((s[0].toNat : Int) == 46) = true := by rw [beq_iff_eq]; omega
      have hel := elemB_no (l := s.data.toList) (j := 0) (by rw [← HZ.out]; exact h0) (okAt_dot (by rw [hg0]; exact hd) (.inl rfl))
      have HE := Lib.hid hel; clear hel hg0 hg1 hd
      go_enter Tryz.func54, Tryz.ntmps54
      go_wp2
      go_ret
      exact ⟨ret_bool HE.out.symm, rfl⟩
    · have hb0 : ((s[0].toNat : Int) == 46) = false := by rw [beq_eq_false_iff_ne]; omega
      by_cases hd1 : s[s.size - 1].toNat = 46
      · have hb1 : ((s[s.size - 1].toNat : Int) == 46) = true := by rw [beq_iff_eq]; omega
        have hel := elemB_no (l := s.data.toList) (j := s.size - 1) (by rw [← HZ.out]; omega) (okAt_dot (by rw [hg1]; exact hd1) (.inr (by rw [← HZ.out]; omega)))
        have HE := Lib.hid hel; clear hel hg0 hg1 hd hd1
        go_enter Tryz.func54, Tryz.ntmps54
        go_wp2
        go_ret
        exact ⟨ret_bool HE.out.symm, rfl⟩
      · have hb1 : ((s[s.size - 1].toNat : Int) == 46) = false := by rw [beq_eq_false_iff_ne]; omega
        have hends : ∀ j, j < s.size → okC (s.data.toList.getD j 0) = true → okAt s.data.toList j = true := fun j hj hc => by
          refine okAt_yes hc ?_
          rintro ⟨h46, rfl | h⟩
          · rw [hg0] at h46; exact hd h46
          · rw [← HZ.out] at h
            obtain rfl : j = s.size - 1 := by omega
            rw [hg1] at h46; exact hd1 h46
        have HN := Lib.hid hends
        clear hends hg0 hg1 hd hd1
        go_enter Tryz.func54, Tryz.ntmps54
        go_wp2
        go_loop [3] (fun i => ∃ k : Nat, k ≤ s.size ∧ i = .int .i64 k ∧ Hid (∀ j, j < k → okAt s.data.toList j = true)) (fun i => s.size - (intOf i).toNat)
        case atStart => exact ⟨0, Nat.zero_le _, rfl, Lib.hid fun j hj => absurd hj (Nat.not_lt_zero j)⟩
        case round =>
          obtain ⟨k, hk, rfl, H⟩ := hrel
          by_cases hlt : k < s.size
          · have hlt8 : s[k].toNat < 256 := UInt8.toNat_lt _
            have hk1 : k < s.data.toList.length := by rw [← HZ.out]; exact hlt
            have hga := getD_at s k hlt
            obtain ⟨y, hy⟩ : ∃ y, y = clsI s[k].toNat := ⟨_, rfl⟩
            have hyb := clsI_bd s[k].toNat (by omega) (by omega)
            rw [← hy] at hyb
            obtain ⟨hy0, hy1⟩ := hyb
            have hcls : okC (s.data.toList.getD k 0) = decide (1 ≤ y ∧ y ≤ 3) := by rw [hga, hy, ← hasB_123]; rfl
            have HC := Lib.hid hcls; have HY := Lib.hid hy; clear hcls hy hga
            by_cases h13 : 1 ≤ y ∧ y ≤ 3
            · obtain ⟨h1, h3⟩ := h13
              have hok := HN.out k hlt (by rw [HC.out]; exact decide_eq_true ⟨h1, h3⟩)
              have hnew : ∀ j, j < k + 1 → okAt s.data.toList j = true := fun j hj => by
                rcases Nat.lt_or_ge j k with h | h
                · exact H.out j h
                · obtain rfl : j = k := by omega
                  exact hok
              have HNEW := Lib.hid hnew; clear hnew hok
              go_wp2_with (go_at_call 72; refine (refclass_any _ (by omega) (by omega) _).mono ?_; rintro e w' ⟨rfl, rfl⟩; rw [← HY.out])
              go_round
              case rel => exact ⟨k + 1, by omega, by go_num, HNEW⟩
              case measure => simp [intOf]; omega
            · have hel := elemB_no (l := s.data.toList) hk1 (okAt_no (by rw [HC.out]; exact decide_eq_false h13))
              have HE := Lib.hid hel; clear hel
              by_cases h1 : y < 1
              · clear h13
                go_wp2_with (go_at_call 72; refine (refclass_any _ (by omega) (by omega) _).mono ?_; rintro e w' ⟨rfl, rfl⟩; rw [← HY.out])
                go_ret
                exact ⟨ret_bool HE.out.symm, rfl⟩
              · have h3 : 3 < y := by omega
                clear h13
                go_wp2_with (go_at_call 72; refine (refclass_any _ (by omega) (by omega) _).mono ?_; rintro e w' ⟨rfl, rfl⟩; rw [← HY.out])
                go_ret
                exact ⟨ret_bool HE.out.symm, rfl⟩
          · have hel := elemB_yes (l := s.data.toList) (by rw [← HZ.out]; exact h0) (fun j hj => H.out j (by rw [← HZ.out] at hj; omega))
            have HE := Lib.hid hel; clear hel
            go_wp2
            go_ret
            exact ⟨ret_bool HE.out.symm, rfl⟩

set_option maxHeartbeats 1000000 in
theorem sequal_any (u v : Value) (a b : List (List UInt8)) (w : World) (ha : Strs w u a) (hb : Strs w v b) :
    Calls Tryz.prog 47 #[u, v] w fun e w' => e = .returned (.bool (sameB a b)) ∧ ∃ n, w' = w.drewN n := by
  obtain ⟨pa, ca, rfl, ha1, ha2, _, ha3⟩ := ha.ex
  obtain ⟨pb, cb, rfl, hb1, hb2, _, hb3⟩ := hb.ex
  clear ha hb
  unfold maxLen at ha2 hb2
  have HA := Lib.hid ha3; have HB := Lib.hid hb3; clear ha3 hb3
  by_cases hl : a.length = b.length
  · have h0 : ((a.length : Int) != (b.length : Int)) = false := by simp [hl]
    have HL := Lib.hid hl; clear hl
    go_enter Tryz.func47, Tryz.ntmps47
    go_wp2
    go_loopw [13] (fun i wr => ∃ k : Nat, k ≤ a.length ∧ i = .int .i64 k ∧ Hid (a.take k = b.take k) ∧ ∃ n, wr = w.drewN n) (fun i _ => a.length - (intOf i).toNat)
    case atStart => exact ⟨0, Nat.zero_le _, rfl, Lib.hid (by simp), 0, rfl⟩
    case round =>
      obtain ⟨k, hk, rfl, H, n, rfl⟩ := hrel
      by_cases hlt : k < a.length
      · have hlb : k < b.length := by rw [← HL.out]; exact hlt
        obtain ⟨ba, oa, hpa, _, hca⟩ := HA.out (by omega)
        obtain ⟨bb, ob, hpb, _, hcb⟩ := HB.out (by omega)
        subst hpa hpb
        have hc1 := hca k hlt
        have hc2 := hcb k hlb
        clear hca hcb
        unfold strV at hc1 hc2
        obtain ⟨x, hx⟩ : ∃ x : ByteArray, x = ⟨(a.getD k []).toArray⟩ := ⟨_, rfl⟩
        obtain ⟨y, hy⟩ : ∃ y : ByteArray, y = ⟨(b.getD k []).toArray⟩ := ⟨_, rfl⟩
        rw [← hx] at hc1
        rw [← hy] at hc2
        have HX := Lib.hid hx; have HY := Lib.hid hy; clear hx hy
        go_wp2
        go_quiet (fail)
        go_wp2
        · have h9 : (!x.toList == y.toList) = true := by assumption
          go_ret
          refine ⟨ret_bool ?_, drew2 _ _ _⟩
          unfold sameB
          rw [eq_comm, decide_eq_false_iff_not]
          intro e
          subst e
          rw [HX.out, HY.out] at h9
          simp at h9
        · have h9 : (!x.toList == y.toList) = false := by assumption
          have h8 : a.getD k [] = b.getD k [] := by
            rw [HX.out, HY.out] at h9
            simp [Lib.toList_data] at h9
            simpa [List.getD_eq_getElem?_getD] using h9
          have h7 : a.take (k + 1) = b.take (k + 1) := by
            rw [List.take_succ_eq_append_getElem hlt, List.take_succ_eq_append_getElem hlb, H.out]
            have ea : a.getD k [] = a[k] := by simp [List.getD_eq_getElem?_getD, List.getElem?_eq_getElem hlt]
            have eb : b.getD k [] = b[k] := by simp [List.getD_eq_getElem?_getD, List.getElem?_eq_getElem hlb]
            rw [← ea, ← eb, h8]
          have H7 := Lib.hid h7; clear h7 h8 h9
          go_roundw
          case rel => exact ⟨k + 1, by omega, by go_num, H7, _, rfl⟩
          case measure => simp [intOf]; omega
      · go_wp2
        go_ret
        have e : a = b := by
          have h5 := H.out
          rw [List.take_of_length_le (by omega), List.take_of_length_le (by have := HL.out; omega)] at h5
          exact h5
        exact ⟨ret_bool (by simp [sameB, e]), _, rfl⟩
  · have h0 : ((a.length : Int) != (b.length : Int)) = true := by simp; omega
    have HL := Lib.hid hl; clear hl
    go_enter Tryz.func47, Tryz.ntmps47
    go_wp2
    go_ret
    exact ⟨ret_bool (by unfold sameB; rw [decide_eq_false]; intro e; exact HL.out (by rw [e])), 0, rfl⟩
end Go.Proofs.YtnngfcjfhhfafaaGreat
