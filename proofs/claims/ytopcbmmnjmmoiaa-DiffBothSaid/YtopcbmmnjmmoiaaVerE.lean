/- The document's own words and Split. -/
import Derived.Test.YtopcbmmnjmmoiaaVerD
import Derived.Test.YtopcbmmnjmmoiaaNumF
namespace Go.Proofs.Ytopcbmmnjmmoiaa
open Go.RowKit
set_option maxRecDepth 100000

/-! ### The document's words -/
theorem oct_cls (c : UInt8) : isD c = decide (clsI (c.toNat : Int) = 1) ∧ wordOct c = (decide (clsI (c.toNat : Int) = 1) || decide (clsI (c.toNat : Int) = 2) || decide (c.toNat = 45)) := by
  have h : ∀ n : Fin 256, (decide (48 ≤ n.1) && decide (n.1 ≤ 57)) = decide (clsI (n.1 : Nat) = 1) ∧ hasB [1, 2] (clsI (n.1 : Nat)) = (decide (clsI (n.1 : Nat) = 1) || decide (clsI (n.1 : Nat) = 2)) := by decide +kernel
  have := h ⟨c.toNat, UInt8.toNat_lt c⟩
  unfold isD wordOct
  rw [this.1, this.2]
  exact ⟨rfl, rfl⟩
theorem word_digits {l : List UInt8} (h : l.all isD = true) : l.all wordOct = true := by
  rw [List.all_eq_true] at *
  intro c hc
  have := h c hc
  rw [(oct_cls c).1] at this
  rw [(oct_cls c).2, this]; rfl
theorem wordL_nil : wordL [] = false := rfl
/-- How the document reckons a word. -/
theorem wordL_ref (l : List UInt8) (h : l.all wordOct = true) : wordL l = (!l.isEmpty && (!(l.all isD) || mayL l)) := by
  unfold wordL
  cases e : l.all isD
  · have : l.isEmpty = false := by cases l with
      | nil => cases e
      | cons x l => rfl
    simp [this, h]
  · cases l with
    | nil => rfl
    | cons x l => simp
theorem wordL_out (l : List UInt8) (h : l.all wordOct = false) : wordL l = false := by
  unfold wordL
  cases e : l.all isD
  · simpa using h
  · have := word_digits e; rw [h] at this; cases this
theorem all_take_snoc {p : UInt8 → Bool} (s : ByteArray) (k : Nat) (h : k < s.size) : (s.data.toList.take (k + 1)).all p = ((s.data.toList.take k).all p && p s[k]) := by
  rw [List.take_succ_eq_append_getElem (by simpa using h), List.all_append]
  simp only [List.all_cons, List.all_nil, Bool.and_true]; rfl

end Go.Proofs.Ytopcbmmnjmmoiaa
