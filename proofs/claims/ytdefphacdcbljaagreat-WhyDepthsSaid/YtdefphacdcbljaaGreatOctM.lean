/- The order of lists of octets: plain facts. -/
import Derived.Test.YtdefphacdcbljaaGreatOctO
import Derived.Lib.Bytealg
import Derived.Lib.Strings
namespace Go.Proofs.YtdefphacdcbljaaGreat
set_option maxRecDepth 100000

theorem cb_vals : ∀ a b : List UInt8, Lib.compareBytes a b = -1 ∨ Lib.compareBytes a b = 0 ∨ Lib.compareBytes a b = 1
  | [], [] => by simp [Lib.compareBytes]
  | [], _ :: _ => by simp [Lib.compareBytes]
  | _ :: _, [] => by simp [Lib.compareBytes]
  | x :: a, y :: b => by
    rw [Lib.compareBytes]
    split
    · simp
    · split
      · simp
      · exact cb_vals a b
theorem cb_swap : ∀ a b : List UInt8, Lib.compareBytes b a = - Lib.compareBytes a b
  | [], [] => by simp [Lib.compareBytes]
  | [], _ :: _ => by simp [Lib.compareBytes]
  | _ :: _, [] => by simp [Lib.compareBytes]
  | x :: a, y :: b => by
    rw [Lib.compareBytes, Lib.compareBytes]
    by_cases h1 : x < y
    · have h2 : ¬ y < x := fun h => UInt8.lt_irrefl x (UInt8.lt_trans h1 h)
      simp [h1, h2]
    · by_cases h2 : y < x
      · simp [h1, h2]
      · simp [h1, h2, cb_swap a b]
theorem cb_self : ∀ a : List UInt8, Lib.compareBytes a a = 0
  | [] => by simp [Lib.compareBytes]
  | x :: a => by rw [Lib.compareBytes]; simp [UInt8.lt_irrefl, cb_self a]
theorem cb_zero : ∀ a b : List UInt8, Lib.compareBytes a b = 0 → a = b
  | [], [] => by simp
  | [], _ :: _ => by simp [Lib.compareBytes]
  | _ :: _, [] => by simp [Lib.compareBytes]
  | x :: a, y :: b => by
    rw [Lib.compareBytes]
    split
    · simp
    · split
      · simp
      · rename_i h1 h2
        intro h
        have e : x = y := UInt8.le_antisymm (UInt8.not_lt.1 h2) (UInt8.not_lt.1 h1)
        rw [e, cb_zero a b h]
theorem cb_eq (a b : List UInt8) : Lib.compareBytes a b = 0 ↔ a = b := ⟨cb_zero a b, fun h => by rw [h]; exact cb_self b⟩
theorem cb_trans : ∀ a b c : List UInt8, Lib.compareBytes a b ≤ 0 → Lib.compareBytes b c ≤ 0 → Lib.compareBytes a c ≤ 0 ∧ (Lib.compareBytes a b < 0 ∨ Lib.compareBytes b c < 0 → Lib.compareBytes a c < 0)
  | [], [], c => by intro _ h2; exact ⟨h2, by rintro (h | h)
                                              · simp [Lib.compareBytes] at h
                                              · exact h⟩
  | [], _ :: _, [] => by simp [Lib.compareBytes]
  | [], _ :: _, _ :: _ => by simp [Lib.compareBytes]
  | _ :: _, [], _ => by simp [Lib.compareBytes]
  | _ :: _, _ :: _, [] => by simp [Lib.compareBytes]
  | x :: a, y :: b, z :: c => by
    have ih := cb_trans a b c
    rw [Lib.compareBytes, Lib.compareBytes, Lib.compareBytes]
    by_cases h1 : x < y
    · by_cases h3 : y < z
      · have := UInt8.lt_trans h1 h3
        simp [this]
      · by_cases h4 : z < y
        · simp [h1, h3, h4]
        · have e : y = z := UInt8.le_antisymm (UInt8.not_lt.1 h4) (UInt8.not_lt.1 h3)
          subst e
          simp [h1]
    · by_cases h2 : y < x
      · simp [h1, h2]
      · have e : x = y := UInt8.le_antisymm (UInt8.not_lt.1 h2) (UInt8.not_lt.1 h1)
        subst e
        by_cases h3 : x < z
        · simp [h3]
        · by_cases h4 : z < x
          · simp [h3, h4]
          · simp only [UInt8.lt_irrefl, h3, h4, if_false]
            exact ih
theorem cb_pre (a b : List UInt8) : ∀ c : List UInt8, Lib.compareBytes (c ++ a) (c ++ b) = Lib.compareBytes a b
  | [] => rfl
  | x :: c => by rw [List.cons_append, List.cons_append, Lib.compareBytes]; simp [UInt8.lt_irrefl, cb_pre a b c]
theorem cb_ext : ∀ (a b : List UInt8), b ≠ [] → Lib.compareBytes a (a ++ b) = -1
  | [], [], h => absurd rfl h
  | [], _ :: _, _ => by simp [Lib.compareBytes]
  | x :: a, b, h => by rw [List.cons_append, Lib.compareBytes]; simp [UInt8.lt_irrefl, cb_ext a b h]
theorem cat_list (a b : ByteArray) : (a ++ b).data.toList = a.data.toList ++ b.data.toList := by simp
theorem cat_size (a b : ByteArray) : (a ++ b).size = a.size + b.size := by simp
end Go.Proofs.YtdefphacdcbljaaGreat
