/- The document's order and value, and the program's value. -/
import Derived.Test.YtopcbmmnjmmoiaaNumE
namespace Go.Proofs.Ytopcbmmnjmmoiaa
open Go.RowKit
set_option maxRecDepth 100000

theorem div_step (v j : Nat) : v / 10 ^ (j + 1) = v / 10 ^ j / 10 := by rw [Nat.pow_succ, Nat.div_div_eq_div_mul]
theorem div_lt_of {v u j : Nat} (h : v / 10 ^ j < u / 10 ^ j) : v < u := by
  rcases Nat.lt_or_ge v u with h1 | h1
  · exact h1
  · have := Nat.div_le_div_right (c := 10 ^ j) h1; omega

theorem val_take (l : List UInt8) (k : Nat) (hk : k < l.length) : valL (l.take (k + 1)) = 10 * valL (l.take k) + ((l.getD k 0).toNat - 48) := by
  rw [List.take_succ_eq_append_getElem hk, valL_snoc, List.getD_eq_getElem?_getD, List.getElem?_eq_getElem hk]; rfl
theorem val_take_le (l : List UInt8) : ∀ k, valL (l.take k) ≤ valL l := by
  intro k
  obtain ⟨m, hm⟩ : ∃ m, m = l.length - k := ⟨_, rfl⟩
  induction m generalizing k with
  | zero => rw [List.take_of_length_le (by omega)]; exact Nat.le_refl _
  | succ m ih =>
    have := ih (k + 1) (by omega)
    have h2 := val_take l k (by omega)
    omega

/-- What Value answers. -/
def valE (l : List UInt8) : Int × Int := if mayL l = true then (if valL l ≤ 18446744073709551615 then (((valL l : Nat) : Int), 0) else (0, 4)) else (0, 1)
theorem valE_ok {l : List UInt8} (h : mayL l = true) (h2 : valL l ≤ 18446744073709551615) : valE l = (((valL l : Nat) : Int), 0) := by unfold valE; rw [if_pos h, if_pos h2]
theorem valE_big {l : List UInt8} (h : mayL l = true) (h2 : ¬ valL l ≤ 18446744073709551615) : valE l = (0, 4) := by unfold valE; rw [if_pos h, if_neg h2]
theorem valE_no {l : List UInt8} (h : mayL l = false) : valE l = (0, 1) := by unfold valE; rw [if_neg (by simp [h])]

end Go.Proofs.Ytopcbmmnjmmoiaa
