/- Version's order: the library's order of two slices, by numbers and by words. -/
import Derived.Test.YthmnoepdedjhjaaVerD
namespace Go.Proofs.Ythmnoepdedjhjaa
open Go.RowKit
set_option maxRecDepth 100000

def numC (a b : List UInt8) : Int := (cmpE a b).1
theorem numC_may {a b : List UInt8} (ha : mayL a = true) (hb : mayL b = true) : numC a b = cmpN a b := by unfold numC; rw [cmpE_ok ha hb]
theorem numC_vals (a b : List UInt8) : -1 ≤ numC a b ∧ numC a b ≤ 1 := by
  unfold numC cmpE
  split
  · exact cmpN_bd a b
  · decide
theorem wordC_vals (a b : List UInt8) : -1 ≤ wordC a b ∧ wordC a b ≤ 1 := by have := ord_W.vals a b; omega

theorem lexI_step (c : List UInt8 → List UInt8 → Int) (a b : List (List UInt8)) (k : Nat) (ha : k < a.length) (hb : k < b.length) :
    lexI c (a.drop k) (b.drop k) = if c (a.getD k []) (b.getD k []) ≠ 0 then c (a.getD k []) (b.getD k []) else lexI c (a.drop (k + 1)) (b.drop (k + 1)) := by
  have e1 : a.getD k [] = a[k] := by simp [List.getD_eq_getElem?_getD, List.getElem?_eq_getElem ha]
  have e2 : b.getD k [] = b[k] := by simp [List.getD_eq_getElem?_getD, List.getElem?_eq_getElem hb]
  rw [e1, e2, List.drop_eq_getElem_cons ha, List.drop_eq_getElem_cons hb, lexI]
theorem lexI_long (c : List UInt8 → List UInt8 → Int) (a b : List (List UInt8)) (k : Nat) (ha : k < a.length) (hb : b.length ≤ k) : lexI c (a.drop k) (b.drop k) = 1 := by
  rw [List.drop_eq_getElem_cons ha, List.drop_eq_nil_of_le hb, lexI]
theorem lexI_end (c : List UInt8 → List UInt8 → Int) (a b : List (List UInt8)) (k : Nat) (ha : a.length = k) : lexI c (a.drop k) (b.drop k) = if k < b.length then -1 else 0 := by
  rw [List.drop_eq_nil_of_le (by omega)]
  split
  · rename_i h; rw [List.drop_eq_getElem_cons h, lexI]
  · rename_i h; rw [List.drop_eq_nil_of_le (by omega), lexI]

end Go.Proofs.Ythmnoepdedjhjaa
