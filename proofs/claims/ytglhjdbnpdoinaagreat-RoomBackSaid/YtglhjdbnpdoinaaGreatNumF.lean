/- The document's order and value, and the program's value. -/
import Derived.Test.YtglhjdbnpdoinaaGreatNumE
namespace Go.Proofs.YtglhjdbnpdoinaaGreat
open Go.RowKit
set_option maxRecDepth 100000

theorem div_step (v j : Nat) : v / 10 ^ (j + 1) = v / 10 ^ j / 10 := by rw [Nat.pow_succ, Nat.div_div_eq_div_mul]
theorem div_lt_of {v u j : Nat} (h : v / 10 ^ j < u / 10 ^ j) : v < u := by
  rcases Nat.lt_or_ge v u with h1 | h1
  · exact h1
  · have := Nat.div_le_div_right (c := 10 ^ j) h1; omega

set_option maxHeartbeats 1600000 in
theorem refcmp2_any (a b : ByteArray) (w : World) (ha : a.size ≤ 1000000000) (hb : b.size ≤ 1000000000) (ma : mayL a.data.toList = true) (mb : mayL b.data.toList = true) :
    Calls Tryz.prog 78 #[.string a, .string b] w fun e w' => e = .returned (.int .i64 (cmpN a.data.toList b.data.toList)) ∧ w = w' := by
  have hla := Lib.size_eq a
  have hlb := Lib.size_eq b
  have va := valL_lt _ (mayL_all ma)
  have vb := valL_lt _ (mayL_all mb)
  have hv := cmpN_val _ _ ma mb
  have MA := Lib.hid (mayL_all ma); have MB := Lib.hid (mayL_all mb); clear ma mb
  obtain ⟨N, hN⟩ : ∃ N, N = max a.size b.size := ⟨_, rfl⟩
  have hs : valL a.data.toList / 10 ^ N = valL b.data.toList / 10 ^ N := by
    have h1 : (10 : Nat) ^ a.data.toList.length ≤ 10 ^ N := Nat.pow_le_pow_right (by omega) (by omega)
    have h2 : (10 : Nat) ^ b.data.toList.length ≤ 10 ^ N := Nat.pow_le_pow_right (by omega) (by omega)
    rw [Nat.div_eq_of_lt (by omega), Nat.div_eq_of_lt (by omega)]
  have HS := Lib.hid hs; have HV := Lib.hid hv
  clear hs hv va vb hla hlb
  by_cases hab : a.size < b.size
  all_goals
    go_enter Tryz.func78, Tryz.ntmps78
    go_wp2
    go_loop [5] (fun i => ∃ m : Nat, m ≤ N ∧ i = .int .i64 ((m : Int) - 1) ∧ Hid (valL a.data.toList / 10 ^ m = valL b.data.toList / 10 ^ m)) (fun i => (intOf i + 1).toNat)
    case atStart => exact ⟨N, Nat.le_refl _, by first | (congr 1; omega) | rfl, HS⟩
    case round =>
      obtain ⟨m, hm, rfl, H⟩ := hrel
      rcases Nat.eq_zero_or_pos m with rfl | hm0
      · have hr : cmpN a.data.toList b.data.toList = 0 := by
          have h5 := H.out
          simp only [Nat.pow_zero, Nat.div_one] at h5
          rcases HV.out with h | h | h <;> omega
        have HR := Lib.hid hr; clear hr
        go_wp2
        go_ret
        exact ⟨ret_int HR.out.symm, rfl⟩
      · obtain ⟨j, rfl⟩ : ∃ j, m = j + 1 := ⟨m - 1, by omega⟩
        have hj : ((j + 1 : Nat) : Int) - 1 = j := by omega
        rw [hj]
        have h5 := H.out
        rw [div_step, div_step] at h5
        obtain ⟨p, hp⟩ : ∃ p, atN a.data.toList j = p := ⟨_, rfl⟩
        obtain ⟨q, hq⟩ : ∃ p, atN b.data.toList j = p := ⟨_, rfl⟩
        have hp2 : p = valL a.data.toList / 10 ^ j % 10 := hp.symm
        have hq2 : q = valL b.data.toList / 10 ^ j % 10 := hq.symm
        have hc : (p < q ∧ cmpN a.data.toList b.data.toList = -1) ∨ (q < p ∧ cmpN a.data.toList b.data.toList = 1) ∨ (p = q ∧ valL a.data.toList / 10 ^ j = valL b.data.toList / 10 ^ j) := by
          rcases Nat.lt_trichotomy p q with h | h | h
          · refine .inl ⟨h, ?_⟩
            have := div_lt_of (v := valL a.data.toList) (u := valL b.data.toList) (j := j) (by omega)
            rcases HV.out with h | h | h
            · exact h.1
            · rw [h.2] at this; omega
            · omega
          · exact .inr (.inr ⟨h, by omega⟩)
          · refine .inr (.inl ⟨h, ?_⟩)
            have := div_lt_of (v := valL b.data.toList) (u := valL a.data.toList) (j := j) (by omega)
            rcases HV.out with h | h | h
            · omega
            · rw [h.2] at this; omega
            · exact h.1
        have hp9 : p ≤ 9 := by omega
        have hq9 : q ≤ 9 := by omega
        have HP := Lib.hid hp; have HQ := Lib.hid hq
        clear h5 hp2 hq2 hp hq hj
        rcases hc with ⟨c1, c2⟩ | ⟨c1, c2⟩ | ⟨c1, c2⟩
        · have HR := Lib.hid c2; clear c2
          go_wp2_with (go_at_call 90; refine (at_any _ _ _ (by first | exact ha | exact hb) (by omega) (by first | exact MA.out | exact MB.out)).mono ?_; rintro e w' ⟨rfl, rfl⟩; first | rw [HP.out] | rw [HQ.out])
          go_ret
          exact ⟨ret_int HR.out.symm, rfl⟩
        · have HR := Lib.hid c2; clear c2
          go_wp2_with (go_at_call 90; refine (at_any _ _ _ (by first | exact ha | exact hb) (by omega) (by first | exact MA.out | exact MB.out)).mono ?_; rintro e w' ⟨rfl, rfl⟩; first | rw [HP.out] | rw [HQ.out])
          go_ret
          exact ⟨ret_int HR.out.symm, rfl⟩
        · have HR := Lib.hid c2; clear c2
          go_wp2_with (go_at_call 90; refine (at_any _ _ _ (by first | exact ha | exact hb) (by omega) (by first | exact MA.out | exact MB.out)).mono ?_; rintro e w' ⟨rfl, rfl⟩; first | rw [HP.out] | rw [HQ.out])
          go_round
          case rel => exact ⟨j, by omega, by first | rfl | go_num, HR⟩
          case measure => first | (simp [intOf]; done) | (simp [intOf]; omega)

theorem val_take (l : List UInt8) (k : Nat) (hk : k < l.length) : valL (l.take (k + 1)) = 10 * valL (l.take k) + ((l.getD k 0).toNat - 48) := by
  rw [List.take_succ_eq_append_getElem hk, valL_snoc, List.getD_eq_getElem?_getD, List.getElem?_eq_getElem hk]; rfl
theorem val_take_le (l : List UInt8) : ∀ k, valL (l.take k) ≤ valL l := by
  intro k
  obtain ⟨m, hm⟩ : ∃ m, m = l.length - k := ⟨_, rfl⟩
  induction m generalizing k with
  | zero => rw [List.take_of_length_le (by omega)]; exact Nat.le_refl _
  | succ m ih =>
    have := ih (k + 1) (by omega)
    have h2 := val_take l k (by omega)
    omega

/-- What Value answers. -/
def valE (l : List UInt8) : Int × Int := if mayL l = true then (if valL l ≤ 18446744073709551615 then (((valL l : Nat) : Int), 0) else (0, 4)) else (0, 1)
theorem valE_ok {l : List UInt8} (h : mayL l = true) (h2 : valL l ≤ 18446744073709551615) : valE l = (((valL l : Nat) : Int), 0) := by unfold valE; rw [if_pos h, if_pos h2]
theorem valE_big {l : List UInt8} (h : mayL l = true) (h2 : ¬ valL l ≤ 18446744073709551615) : valE l = (0, 4) := by unfold valE; rw [if_pos h, if_neg h2]
theorem valE_no {l : List UInt8} (h : mayL l = false) : valE l = (0, 1) := by unfold valE; rw [if_neg (by simp [h])]

end Go.Proofs.YtglhjdbnpdoinaaGreat
