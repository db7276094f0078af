/- Paths: plain facts. -/
import Derived.Test.YtdefphacdcbljaaOctP
namespace Go.Proofs.Ytdefphacdcbljaa
open Go.RowKit
set_option maxRecDepth 100000

/-- May an octet stand in an element? -/
def okC (c : UInt8) : Bool := hasB [1, 2, 3] (clsI c.toNat)
/-- Is the octet at a place of an element right there? -/
def okAt (l : List UInt8) (j : Nat) : Bool := okC (l.getD j 0) && !(decide ((l.getD j 0).toNat = 46) && (decide (j = 0) || decide (j + 1 = l.length)))
/-- Is a text an element? -/
def elemB (l : List UInt8) : Bool := decide (0 < l.length) && (List.range l.length).all (okAt l)
/-- Is a text a path? -/
def pathB (l : List UInt8) : Bool := (splitL 47 l).all elemB
/-- May these be put together? -/
def okJ (ls : List (List UInt8)) : Bool := decide (0 < ls.length) && ls.all elemB
/-- Is one path within another one? -/
def withinB (p q : List UInt8) : Bool := pathB p && pathB q && decide ((splitL 47 p).length ≤ (splitL 47 q).length) && sameB (splitL 47 p) ((splitL 47 q).take (splitL 47 p).length)

theorem elemB_iff (l : List UInt8) : elemB l = true ↔ 0 < l.length ∧ ∀ j, j < l.length → okAt l j = true := by
  unfold elemB
  simp only [Bool.and_eq_true, decide_eq_true_eq, List.all_eq_true, List.mem_range]
theorem elemB_yes {l : List UInt8} (h0 : 0 < l.length) (h : ∀ j, j < l.length → okAt l j = true) : elemB l = true := (elemB_iff l).2 ⟨h0, h⟩
theorem elemB_no {l : List UInt8} {j : Nat} (hj : j < l.length) (h : okAt l j = false) : elemB l = false := by
  rw [Bool.eq_false_iff]; intro e
  have := ((elemB_iff l).1 e).2 j hj
  rw [h] at this; cases this
theorem elemB_nil {l : List UInt8} (h : l.length = 0) : elemB l = false := by
  rw [Bool.eq_false_iff]; intro e
  have := ((elemB_iff l).1 e).1
  omega
theorem okAt_no {l : List UInt8} {j : Nat} (h : okC (l.getD j 0) = false) : okAt l j = false := by unfold okAt; rw [h]; rfl
theorem okAt_dot {l : List UInt8} {j : Nat} (h : (l.getD j 0).toNat = 46) (h2 : j = 0 ∨ j + 1 = l.length) : okAt l j = false := by
  unfold okAt
  have : (decide (j = 0) || decide (j + 1 = l.length)) = true := by simpa using h2
  rw [this, decide_eq_true h]; simp
theorem okAt_yes {l : List UInt8} {j : Nat} (h : okC (l.getD j 0) = true) (h2 : ¬ ((l.getD j 0).toNat = 46 ∧ (j = 0 ∨ j + 1 = l.length))) : okAt l j = true := by
  unfold okAt
  rw [h, Bool.true_and, Bool.not_eq_true', Bool.eq_false_iff]
  intro e
  simp only [Bool.and_eq_true, decide_eq_true_eq, Bool.or_eq_true] at e
  exact h2 e
theorem okAt_okC {l : List UInt8} {j : Nat} (h : okAt l j = true) : okC (l.getD j 0) = true := by
  unfold okAt at h; rw [Bool.and_eq_true] at h; exact h.1
theorem okAt_nodot {l : List UInt8} {j : Nat} (h : okAt l j = true) : ¬ ((l.getD j 0).toNat = 46 ∧ (j = 0 ∨ j + 1 = l.length)) := by
  rintro ⟨h1, h2⟩
  rw [okAt_dot h1 h2] at h; cases h
theorem okC_high (c : UInt8) (h : 128 ≤ c.toNat) : okC c = false := by
  have hh : ∀ n : Fin 256, 128 ≤ n.1 → hasB [1, 2, 3] (clsI (n.1 : Int)) = false := by decide +kernel
  exact hh ⟨c.toNat, by have := UInt8.toNat_lt c; omega⟩ h
theorem okC_slash (c : UInt8) (h : (c.toNat : Int) = 47) : okC c = false := by
  unfold okC; rw [h]; decide +kernel
theorem hasB_123 (x : Int) : hasB [1, 2, 3] x = decide (1 ≤ x ∧ x ≤ 3) := by
  unfold hasB
  rw [decide_eq_decide]
  simp only [List.mem_cons, List.not_mem_nil, or_false]
  omega

theorem elem_oct {l : List UInt8} (h : elemB l = true) : ∀ c ∈ l, okC c = true := by
  intro c hc
  obtain ⟨j, hj, rfl⟩ := List.mem_iff_getElem.1 hc
  have := okAt_okC (((elemB_iff l).1 h).2 j hj)
  rwa [List.getD_eq_getElem?_getD, List.getElem?_eq_getElem hj] at this
theorem elem_no47 {l : List UInt8} (h : elemB l = true) : ∀ c ∈ l, ¬ (c.toNat : Int) = 47 := by
  intro c hc e
  have := elem_oct h c hc
  rw [okC_slash c e] at this; cases this
theorem split_path {ls : List (List UInt8)} (h : okJ ls = true) : splitL 47 (jn 47 ls) = ls := by
  unfold okJ at h
  rw [Bool.and_eq_true, decide_eq_true_eq, List.all_eq_true] at h
  exact split_jn 47 47 (by decide) ls (by intro e; rw [e] at h; simp at h) fun l hl => elem_no47 (h.2 l hl)
theorem path_join {ls : List (List UInt8)} (h : okJ ls = true) : pathB (jn 47 ls) = true := by
  unfold pathB
  rw [split_path h]
  unfold okJ at h
  rw [Bool.and_eq_true] at h
  exact h.2
theorem okJ_split (l : List UInt8) : okJ (splitL 47 l) = pathB l := by
  unfold okJ pathB
  have : 0 < (splitL 47 l).length := List.length_pos_iff.2 (splitL_ne 47 l)
  rw [decide_eq_true this, Bool.true_and]
end Go.Proofs.Ytdefphacdcbljaa
