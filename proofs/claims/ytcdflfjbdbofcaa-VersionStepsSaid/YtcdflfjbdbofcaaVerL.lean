/- The document's order of two versions. -/
import Derived.Test.YtcdflfjbdbofcaaVerK
namespace Go.Proofs.Ytcdflfjbdbofcaa
open Go.RowKit

set_option maxHeartbeats 800000 in
theorem refwords_any (a b : List UInt8) (w : World) (ha : a.length ≤ 1000000000) (hb : b.length ≤ 1000000000) :
    Calls Try.prog 34 #[.string (mkB a), .string (mkB b)] w fun e w' => e = .returned (.int .i64 (wordC a b)) ∧ ∃ n, w' = w.drewN n := by
  have HA : Hid ((mkB a).size ≤ 1000000000) := Lib.hid (by rw [mkB_size]; omega)
  have HB : Hid ((mkB b).size ≤ 1000000000) := Lib.hid (by rw [mkB_size]; omega)
  have HA' : Hid ((mkB a).size ≤ maxLen) := Lib.hid (by rw [mkB_size]; unfold maxLen; omega)
  have HB' : Hid ((mkB b).size ≤ maxLen) := Lib.hid (by rw [mkB_size]; unfold maxLen; omega)
  clear ha hb
  obtain ⟨x, hx⟩ : ∃ x, mayL a = x := ⟨_, rfl⟩
  obtain ⟨y, hy⟩ : ∃ y, mayL b = y := ⟨_, rfl⟩
  have hw : wordC a b = if x = true then (if y = true then cmpN a b else -1) else (if y = true then 1 else Lib.compareBytes a b) := by
    unfold wordC; rw [hx, hy]
  have HX := Lib.hid hx; have HY := Lib.hid hy; have HW := Lib.hid hw; clear hx hy hw
  cases x <;> cases y
  all_goals
    go_enter Try.func34, Try.ntmps34
    go_wp2_with (first
      | (go_at_call 28; refine (refmay_any _ _ (by first | exact HA.out | exact HB.out)).mono ?_; rintro e w1 ⟨rfl, rfl⟩; rw [mkB_list]; first | rw [HX.out] | rw [HY.out])
      | (go_at_call 33; refine (refcmp2_any _ _ _ HA.out HB.out (by rw [mkB_list]; exact HX.out) (by rw [mkB_list]; exact HY.out)).mono ?_; rintro e w3 ⟨rfl, rfl⟩; rw [mkB_list, mkB_list])
      | (go_at_call 50; refine (refcmp_any _ _ _ HA'.out HB'.out).mono ?_; rintro e w4 ⟨rfl, n, rfl⟩; rw [mkB_list, mkB_list]))
    go_ret
    first
      | exact ⟨ret_int (by rw [HW.out]; simp), 0, rfl⟩
      | exact ⟨ret_int (by rw [HW.out]; simp), _, rfl⟩

end Go.Proofs.Ytcdflfjbdbofcaa
