/- The document's digit, May, at and order; the program's Value and the document's. -/
import Derived.Test.YtopcbmmnjmmoiaaNumH
namespace Go.Proofs.Ytopcbmmnjmmoiaa
open Go.RowKit
set_option maxRecDepth 100000

def digI (c : Int) : Int := if 48 ≤ c ∧ c ≤ 57 then c - 48 else -1

theorem dig_yes {c : UInt8} (h : isD c = true) : digI (c.toNat : Int) = ((c.toNat - 48 : Nat) : Int) := by
  have := isD_bd h
  unfold digI; rw [if_pos (by omega)]; omega
theorem dig_no {c : UInt8} (h : isD c = false) : digI (c.toNat : Int) = -1 := by
  unfold digI; rw [if_neg]
  intro hh
  have : isD c = true := by unfold isD; simp; omega
  rw [h] at this; cases this
theorem at_list (s : ByteArray) (k : Nat) (h : k < s.size) : s[k] ∈ s.data.toList := by
  have : s[k] = s.data.toList[k]'(by simpa using h) := rfl
  rw [this]; exact List.getElem_mem _

/-- The digit of a place, from the lowest one on. -/
def atN (l : List UInt8) (i : Nat) : Nat := valL l / 10 ^ i % 10
theorem valR_at : ∀ (r : List UInt8) (i : Nat), r.all isD = true → valR r / 10 ^ i % 10 = (r.getD i 48).toNat - 48
  | [], i, _ => by simp [valR]
  | c :: r, 0, h => by
    rw [List.all_cons, Bool.and_eq_true] at h
    have := isD_bd h.1
    simp only [valR, Nat.pow_zero, Nat.div_one]
    show _ = c.toNat - 48
    omega
  | c :: r, i + 1, h => by
    rw [List.all_cons, Bool.and_eq_true] at h
    have := isD_bd h.1
    have ih := valR_at r i h.2
    have e : (c.toNat - 48 + 10 * valR r) / 10 ^ (i + 1) = valR r / 10 ^ i := by
      rw [Nat.pow_succ, Nat.mul_comm (10 ^ i) 10, ← Nat.div_div_eq_div_mul]
      congr 1
      omega
    rw [valR, e, ih]
    rfl
theorem atN_in (s : ByteArray) (i : Nat) (h : s.data.toList.all isD = true) (hi : i < s.size) : atN s.data.toList i = s[s.size - 1 - i].toNat - 48 := by
  have hl := Lib.size_eq s
  unfold atN valL
  rw [valR_at _ i (by rw [List.all_reverse]; exact h)]
  congr 1
  rw [List.getD_eq_getElem?_getD, List.getElem?_reverse (by omega), List.getElem?_eq_getElem (by omega)]
  simp only [Option.getD_some]
  have : s.data.toList[s.data.toList.length - 1 - i]'(by omega) = s[s.size - 1 - i]'(by omega) := by
    show _ = s.data.toList[s.size - 1 - i]'(by simp; omega)
    congr 1 <;> omega
  rw [this]
theorem atN_out (s : ByteArray) (i : Nat) (h : s.data.toList.all isD = true) (hi : s.size ≤ i) : atN s.data.toList i = 0 := by
  have hl := Lib.size_eq s
  have := valL_lt _ h
  unfold atN
  have h2 : (10 : Nat) ^ s.data.toList.length ≤ 10 ^ i := Nat.pow_le_pow_right (by omega) (by omega)
  rw [Nat.div_eq_of_lt (by omega)]

end Go.Proofs.Ytopcbmmnjmmoiaa
