/- Paths: plain facts. -/
import Derived.Test.YtlbibgofhhdgoaaGreatOctP
namespace Go.Proofs.YtlbibgofhhdgoaaGreat
open Go.RowKit
set_option maxRecDepth 100000

/-- May an octet stand in an element? -/
def okC (c : UInt8) : Bool := hasB [1, 2, 3] (clsI c.toNat)
/-- Is the octet at a place of an element right there? -/
def okAt (l : List UInt8) (j : Nat) : Bool := okC (l.getD j 0) && !(decide ((l.getD j 0).toNat = 46) && (decide (j = 0) || decide (j + 1 = l.length)))
/-- Is a text an element? -/
def elemB (l : List UInt8) : Bool := decide (0 < l.length) && (List.range l.length).all (okAt l)
/-- Is a text a path? -/
def pathB (l : List UInt8) : Bool := (splitL 47 l).all elemB
theorem elemB_iff (l : List UInt8) : elemB l = true ↔ 0 < l.length ∧ ∀ j, j < l.length → okAt l j = true := by
  unfold elemB
  simp only [Bool.and_eq_true, decide_eq_true_eq, List.all_eq_true, List.mem_range]
theorem elemB_yes {l : List UInt8} (h0 : 0 < l.length) (h : ∀ j, j < l.length → okAt l j = true) : elemB l = true := (elemB_iff l).2 ⟨h0, h⟩
theorem elemB_no {l : List UInt8} {j : Nat} (hj : j < l.length) (h : okAt l j = false) : elemB l = false := by
  rw [Bool.eq_false_iff]; intro e
  have := ((elemB_iff l).1 e).2 j hj
  rw [h] at this; cases this
theorem elemB_nil {l : List UInt8} (h : l.length = 0) : elemB l = false := by
  rw [Bool.eq_false_iff]; intro e
  have := ((elemB_iff l).1 e).1
  omega
theorem okAt_no {l : List UInt8} {j : Nat} (h : okC (l.getD j 0) = false) : okAt l j = false := by unfold okAt; rw [h]; rfl
theorem okAt_dot {l : List UInt8} {j : Nat} (h : (l.getD j 0).toNat = 46) (h2 : j = 0 ∨ j + 1 = l.length) : okAt l j = false := by
  unfold okAt
  have : (decide (j = 0) || decide (j + 1 = l.length)) = true := by simpa using h2
  rw [this, decide_eq_true h]; simp
theorem okAt_yes {l : List UInt8} {j : Nat} (h : okC (l.getD j 0) = true) (h2 : ¬ ((l.getD j 0).toNat = 46 ∧ (j = 0 ∨ j + 1 = l.length))) : okAt l j = true := by
  unfold okAt
  rw [h, Bool.true_and, Bool.not_eq_true', Bool.eq_false_iff]
  intro e
  simp only [Bool.and_eq_true, decide_eq_true_eq, Bool.or_eq_true] at e
  exact h2 e
theorem okC_high (c : UInt8) (h : 128 ≤ c.toNat) : okC c = false := by
  have hh : ∀ n : Fin 256, 128 ≤ n.1 → hasB [1, 2, 3] (clsI (n.1 : Int)) = false := by decide +kernel
  exact hh ⟨c.toNat, by have := UInt8.toNat_lt c; omega⟩ h
theorem hasB_123 (x : Int) : hasB [1, 2, 3] x = decide (1 ≤ x ∧ x ≤ 3) := by
  unfold hasB
  rw [decide_eq_decide]
  simp only [List.mem_cons, List.not_mem_nil, or_false]
  omega

end Go.Proofs.YtlbibgofhhdgoaaGreat
