/- The contracts of number: which texts are numbers, their order, and the next one. -/
import Derived.Test.YtjlnajokkhdhnaaDoorOctP
import Derived.Test.YtjlnajokkhdhnaaDoorNumM
namespace Go.Proofs.YtjlnajokkhdhnaaDoor
open Go.RowKit
set_option maxRecDepth 100000

theorem bytes_cons (s : ByteArray) (h : 0 < s.size) : s.data.toList = s[0] :: s.data.toList.drop 1 := by
  have := drop_at s 0 h
  simpa using this

theorem one_beq (n : Nat) : ((n : Int) == 1) = decide (n = 1) := by rw [Bool.eq_iff_iff, beq_iff_eq, decide_eq_true_eq]; omega

set_option maxHeartbeats 400000 in
theorem may_any (s : ByteArray) (w : World) (hs : s.size ≤ maxLen) :
    Calls Tryd.prog 62 #[.string s] w fun e w' => e = .returned (.bool (mayL s.data.toList)) ∧ Below w.heap.size w w' := by
  have HS := Lib.hid hs
  unfold maxLen at hs
  rcases Nat.eq_zero_or_pos s.size with h0 | h0
  · have hE : s.toList.isEmpty = true := by rw [empty_iff]; simpa using h0
    have hm : mayL s.data.toList = false := by
      have : s.data.toList = [] := List.eq_nil_of_length_eq_zero (by rw [← Lib.size_eq]; exact h0)
      rw [this]; rfl
    have HM := Lib.hid hm; clear hm h0
    go_enter Tryd.func62, Tryd.ntmps62
    go_wp2
    go_ret
    exact ⟨ret_bool HM.out.symm, Below.refl _ _⟩
  · have hE : s.toList.isEmpty = false := by rw [empty_iff]; exact decide_eq_false (by omega)
    have hl := Lib.size_eq s
    have hc := bytes_cons s h0
    obtain ⟨b, hb⟩ : ∃ b, s.data.toList.all isD = b := ⟨_, rfl⟩
    have hm : mayL s.data.toList = (b && (decide ((s[0].toNat : Int) ≠ 48) || decide (s.size = 1))) := by
      unfold mayL
      rw [hb, hc]
      have e : (s[0] = 48) = ((s[0].toNat : Int) = 48) := by
        rw [← UInt8.toNat_inj]
        have : (48 : UInt8).toNat = 48 := rfl
        rw [this]; apply propext; omega
      have e2 : (s[0] :: s.data.toList.drop 1).length = s.size := by rw [hl, ← hc]
      rw [e2]
      simp [e]
    have HM := Lib.hid hm; have HB := Lib.hid hb; clear hm hb hc hl
    cases b
    · go_enter Tryd.func62, Tryd.ntmps62
      go_wp2_with (go_at_call 68; refine (all_any s HS.out _ [1] _ (Ints.lit1 _ _ _)).mono ?_; rintro e w1 ⟨rfl, hb1⟩; rw [all_dig, HB.out])
      go_ret
      exact ⟨ret_bool HM.out.symm, (below_step ((Below.refl _ _).alloc (Nat.le_refl _) _) hb1)⟩
    · by_cases h48 : (s[0].toNat : Int) = 48
      · have h4 : ((s[0].toNat : Int) != 48) = false := by simpa using h48
        by_cases h1 : s.size = 1
        all_goals
          go_enter Tryd.func62, Tryd.ntmps62
          go_wp2_with (go_at_call 68; refine (all_any s HS.out _ [1] _ (Ints.lit1 _ _ _)).mono ?_; rintro e w1 ⟨rfl, hb1⟩; rw [all_dig, HB.out])
          go_ret
          exact ⟨ret_bool (by rw [HM.out]; first | (simp [h1, h48]; done) | (rw [one_beq, h48]; simp)), (below_step ((Below.refl _ _).alloc (Nat.le_refl _) _) hb1)⟩
      · have h4 : ((s[0].toNat : Int) != 48) = true := by simpa using h48
        go_enter Tryd.func62, Tryd.ntmps62
        go_wp2_with (go_at_call 68; refine (all_any s HS.out _ [1] _ (Ints.lit1 _ _ _)).mono ?_; rintro e w1 ⟨rfl, hb1⟩; rw [all_dig, HB.out])
        go_ret
        exact ⟨ret_bool (by rw [HM.out]; simp [h48]), (below_step ((Below.refl _ _).alloc (Nat.le_refl _) _) hb1)⟩

/-- What Cmp answers: the order, and the error. -/
def cmpE (a b : List UInt8) : Int × Int := if mayL a = true ∧ mayL b = true then (cmpN a b, 0) else (0, 1)

end Go.Proofs.YtjlnajokkhdhnaaDoor
