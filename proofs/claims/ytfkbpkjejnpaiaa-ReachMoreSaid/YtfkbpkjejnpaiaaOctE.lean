/- Are all octets of a text of some classes: of the program and of the document. -/
import Derived.Test.YtfkbpkjejnpaiaaOctD
namespace Go.Proofs.Ytfkbpkjejnpaiaa
open Go.RowKit
set_option maxRecDepth 100000

/-- Are all octets' classes among these? -/
def allB (l : List UInt8) (zs : List Int) : Bool := l.all fun c => hasB zs (clsI c.toNat)

/-- Which of the ten classes are among these. -/
def flagsV (zs : List Int) : Array Value := ((List.range 10).map fun (c : Nat) => Value.bool (hasB zs (c : Int))).toArray
theorem flagsV_size (zs : List Int) : (flagsV zs).size = 10 := by simp [flagsV]
theorem flagsV_at (zs : List Int) (c : Nat) (h : c < 10) : (flagsV zs)[c]? = some (.bool (hasB zs (c : Int))) := by
  simp [flagsV, h]
theorem hasB_snoc (zs : List Int) (x c : Int) : hasB (zs ++ [x]) c = (hasB zs c || decide (c = x)) := by
  simp [hasB]
theorem flagsV_set (zs : List Int) (x : Int) (h0 : 0 ≤ x) (h1 : x < 10) : (flagsV zs).setIfInBounds x.toNat (.bool true) = flagsV (zs ++ [x]) := by
  apply Array.ext
  · simp [flagsV]
  · intro i hi hj
    have hi10 : i < 10 := by simpa [flagsV] using hj
    rw [Array.getElem_setIfInBounds]
    · simp only [flagsV, List.getElem_toArray, List.getElem_map, List.getElem_range, hasB_snoc]
      by_cases e : x.toNat = i
      · rw [if_pos e]; have : (i : Int) = x := by omega
        simp [this]
      · rw [if_neg e]; have : ¬ (i : Int) = x := by omega
        simp [this]
    · simpa [flagsV] using hi10
theorem flagsV_out (zs : List Int) (x : Int) (h : x < 0 ∨ 10 ≤ x) : flagsV (zs ++ [x]) = flagsV zs := by
  unfold flagsV
  congr 1
  apply List.map_congr_left
  intro c hc
  have : c < 10 := List.mem_range.1 hc
  rw [hasB_snoc]
  have : ¬ (c : Int) = x := by omega
  simp [this]

theorem tabV_at (c : Nat) (h : c < 256) : tabV[c]? = some (.int .u8 (clsI (c : Int))) := by
  have hn : c < tabL.length := by have : tabL.length = 256 := by decide +kernel
                                  omega
  unfold tabV clsI
  rw [List.getElem?_toArray, List.getElem?_map, List.getD_eq_getElem?_getD, Int.toNat_natCast, List.getElem?_eq_getElem hn]
  rfl

end Go.Proofs.Ytfkbpkjejnpaiaa
