/- The contracts of number: which texts are numbers, their order, and the next one. -/
import Derived.Test.YtcdflfjbdbofcaaOctH
import Derived.Test.YtcdflfjbdbofcaaNumM
namespace Go.Proofs.Ytcdflfjbdbofcaa
open Go.RowKit

theorem bytes_cons (s : ByteArray) (h : 0 < s.size) : s.data.toList = s[0] :: s.data.toList.drop 1 := by
  have := drop_at s 0 h
  simpa using this

theorem empty_iff (s : ByteArray) : s.toList.isEmpty = decide (s.size = 0) := by
  rw [Lib.toList_data, Lib.size_eq]
  cases s.data.toList <;> simp

theorem one_beq (n : Nat) : ((n : Int) == 1) = decide (n = 1) := by rw [Bool.eq_iff_iff, beq_iff_eq, decide_eq_true_eq]; omega

set_option maxHeartbeats 400000 in
theorem may_any (s : ByteArray) (w : World) (hs : s.size ≤ maxLen) :
    Calls Try.prog 38 #[.string s] w fun e w' => e = .returned (.bool (mayL s.data.toList)) ∧ Below w.heap.size w w' := by
  have HS := Lib.hid hs
  unfold maxLen at hs
  rcases Nat.eq_zero_or_pos s.size with h0 | h0
  · have hE : s.toList.isEmpty = true := by rw [empty_iff]; simpa using h0
    have hm : mayL s.data.toList = false := by
      have : s.data.toList = [] := List.eq_nil_of_length_eq_zero (by rw [← Lib.size_eq]; exact h0)
      rw [this]; rfl
    have HM := Lib.hid hm; clear hm h0
    go_enter Try.func38, Try.ntmps38
    go_wp2
    go_ret
    exact ⟨ret_bool HM.out.symm, Below.refl _ _⟩
  · have hE : s.toList.isEmpty = false := by rw [empty_iff]; exact decide_eq_false (by omega)
    have hl := Lib.size_eq s
    have hc := bytes_cons s h0
    obtain ⟨b, hb⟩ : ∃ b, s.data.toList.all isD = b := ⟨_, rfl⟩
    have hm : mayL s.data.toList = (b && (decide ((s[0].toNat : Int) ≠ 48) || decide (s.size = 1))) := by
      unfold mayL
      rw [hb, hc]
      have e : (s[0] = 48) = ((s[0].toNat : Int) = 48) := by
        rw [← UInt8.toNat_inj]
        have : (48 : UInt8).toNat = 48 := rfl
        rw [this]; apply propext; omega
      have e2 : (s[0] :: s.data.toList.drop 1).length = s.size := by rw [hl, ← hc]
      rw [e2]
      simp [e]
    have HM := Lib.hid hm; have HB := Lib.hid hb; clear hm hb hc hl
    cases b
    · go_enter Try.func38, Try.ntmps38
      go_wp2_with (go_at_call 53; refine (all_any s HS.out _ [1] _ (Ints.lit1 _ _ _)).mono ?_; rintro e w1 ⟨rfl, hb1⟩; rw [all_dig, HB.out])
      go_ret
      exact ⟨ret_bool HM.out.symm, (below_step ((Below.refl _ _).alloc (Nat.le_refl _) _) hb1)⟩
    · by_cases h48 : (s[0].toNat : Int) = 48
      · have h4 : ((s[0].toNat : Int) != 48) = false := by simpa using h48
        by_cases h1 : s.size = 1
        all_goals
          go_enter Try.func38, Try.ntmps38
          go_wp2_with (go_at_call 53; refine (all_any s HS.out _ [1] _ (Ints.lit1 _ _ _)).mono ?_; rintro e w1 ⟨rfl, hb1⟩; rw [all_dig, HB.out])
          go_ret
          exact ⟨ret_bool (by rw [HM.out]; first | (simp [h1, h48]; done) | (rw [one_beq, h48]; simp)), (below_step ((Below.refl _ _).alloc (Nat.le_refl _) _) hb1)⟩
      · have h4 : ((s[0].toNat : Int) != 48) = true := by simpa using h48
        go_enter Try.func38, Try.ntmps38
        go_wp2_with (go_at_call 53; refine (all_any s HS.out _ [1] _ (Ints.lit1 _ _ _)).mono ?_; rintro e w1 ⟨rfl, hb1⟩; rw [all_dig, HB.out])
        go_ret
        exact ⟨ret_bool (by rw [HM.out]; simp [h48]), (below_step ((Below.refl _ _).alloc (Nat.le_refl _) _) hb1)⟩

set_option maxHeartbeats 400000 in
theorem compare_any (a b : Int) (w : World) :
    Calls Try.prog 47 #[.int .i64 a, .int .i64 b] w fun e w' => e = .returned (.int .i64 (if a < b then -1 else if b < a then 1 else 0)) ∧ w = w' := by
  by_cases h1 : a < b
  · go_enter Try.func47, Try.ntmps47
    go_wp2
    all_goals
      go_ret
      refine ⟨ret_int ?_, rfl⟩
      repeat (first | rfl | omega | split)
  · by_cases h2 : b < a
    · go_enter Try.func47, Try.ntmps47
      go_wp2
      all_goals
        go_ret
        refine ⟨ret_int ?_, rfl⟩
        repeat (first | rfl | omega | split)
    · go_enter Try.func47, Try.ntmps47
      go_wp2
      all_goals
        go_ret
        refine ⟨ret_int ?_, rfl⟩
        repeat (first | rfl | omega | split)

/-- What Cmp answers: the order, and the error. -/
def cmpE (a b : List UInt8) : Int × Int := if mayL a = true ∧ mayL b = true then (cmpN a b, 0) else (0, 1)

set_option maxHeartbeats 400000 in
theorem cmpnum_any (a b : ByteArray) (w : World) (ha : a.size ≤ maxLen) (hb : b.size ≤ maxLen) :
    Calls Try.prog 57 #[.string a, .string b] w fun e w' => e = .returned (.tuple #[.int .i64 (cmpE a.data.toList b.data.toList).1, .int .i64 (cmpE a.data.toList b.data.toList).2]) ∧ Below w.heap.size w w' := by
  have HA := Lib.hid ha; have HB := Lib.hid hb
  unfold maxLen at ha hb
  have la := Lib.size_eq a
  have lb := Lib.size_eq b
  obtain ⟨x, hx⟩ : ∃ x, mayL a.data.toList = x := ⟨_, rfl⟩
  obtain ⟨y, hy⟩ : ∃ y, mayL b.data.toList = y := ⟨_, rfl⟩
  have hr : cmpE a.data.toList b.data.toList = if x = true ∧ y = true then (cmpN a.data.toList b.data.toList, 0) else (0, 1) := by unfold cmpE; rw [hx, hy]
  have HX := Lib.hid hx; have HY := Lib.hid hy; have HR := Lib.hid hr; clear hx hy hr
  have B0 := Below.refl w.heap.size w
  cases x
  · go_enter Try.func57, Try.ntmps57
    go_wp2_with (go_at_call 38; refine (may_any _ _ (by first | exact HA.out | exact HB.out)).mono ?_; rintro e w1 ⟨rfl, hb1⟩; have B1 := below_step (by assumption) hb1; clear hb1; first | rw [HX.out] | rw [HY.out])
    go_ret2
    exact ⟨by rw [HR.out]; rfl, by assumption⟩
  · cases y
    · go_enter Try.func57, Try.ntmps57
      go_wp2_with (go_at_call 38; refine (may_any _ _ (by first | exact HA.out | exact HB.out)).mono ?_; rintro e w1 ⟨rfl, hb1⟩; have B1 := below_step (by assumption) hb1; clear hb1; first | rw [HX.out] | rw [HY.out])
      go_ret2
      exact ⟨by rw [HR.out]; rfl, by assumption⟩
    · have hc : cmpN a.data.toList b.data.toList = if (a.size : Int) < b.size then -1 else if (b.size : Int) < a.size then 1 else Lib.compareBytes a.data.toList b.data.toList := by
        unfold cmpN; rw [← la, ← lb]; simp only [Int.ofNat_lt]
      have HC := Lib.hid hc; clear hc
      by_cases hl : a.size = b.size
      · have hc2 : cmpN a.data.toList b.data.toList = Lib.compareBytes a.data.toList b.data.toList := by rw [HC.out, if_neg (by omega), if_neg (by omega)]
        have HC2 := Lib.hid hc2; clear hc2 HC la lb
        have hne : ((a.size : Int) != (b.size : Int)) = false := by rw [hl]; simp
        clear hl
        go_enter Try.func57, Try.ntmps57
        go_wp2_with (first
          | (go_at_call 38; refine (may_any _ _ (by first | exact HA.out | exact HB.out)).mono ?_; rintro e w1 ⟨rfl, hb1⟩; have B1 := below_step (by assumption) hb1; clear hb1; first | rw [HX.out] | rw [HY.out])
          | (go_at_call 59; refine (cmp_any a b _).mono ?_; rintro e w3 ⟨rfl, rfl⟩; rw [← HC2.out]))
        go_ret2
        exact ⟨by rw [HR.out]; rfl, by assumption⟩
      · have hc2 : cmpN a.data.toList b.data.toList = if (a.size : Int) < b.size then -1 else if (b.size : Int) < a.size then 1 else 0 := by
          rw [HC.out]; rcases Nat.lt_or_gt_of_ne hl with h | h
          · rw [if_pos (by omega), if_pos (by omega)]
          · rw [if_neg (by omega), if_pos (by omega), if_neg (by omega), if_pos (by omega)]
        have HC2 := Lib.hid hc2; clear hc2 HC la lb
        have hne : ((a.size : Int) != (b.size : Int)) = true := by simp; omega
        clear hl
        go_enter Try.func57, Try.ntmps57
        go_wp2_with (first
          | (go_at_call 38; refine (may_any _ _ (by first | exact HA.out | exact HB.out)).mono ?_; rintro e w1 ⟨rfl, hb1⟩; have B1 := below_step (by assumption) hb1; clear hb1; first | rw [HX.out] | rw [HY.out])
          | (go_at_call 47; refine (compare_any _ _ _).mono ?_; rintro e w3 ⟨rfl, rfl⟩; rw [← HC2.out]))
        go_ret2
        exact ⟨by rw [HR.out]; rfl, by assumption⟩
end Go.Proofs.Ytcdflfjbdbofcaa
