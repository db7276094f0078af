/- A set without another one's nodes, and without a node, of the program; whether a node is in a set. -/
import Derived.Test.YtnngfcjfhhfafaaGreatNodF
import Derived.Test.YtnngfcjfhhfafaaGreatNodH
namespace Go.Proofs.YtnngfcjfhhfafaaGreat
open Go.RowKit Go.Maps
set_option maxRecDepth 100000

def chkE (ns : List Nd) : Int := if checkN ns = true then 0 else 1
theorem chkE_yes {ns : List Nd} (h : checkN ns = true) : chkE ns = 0 := by unfold chkE; rw [if_pos h]
theorem chkE_no {ns : List Nd} (h : checkN ns = false) : chkE ns = 1 := by unfold chkE; rw [if_neg (by simp [h])]
def minusNE (l m : List Nd) : List Nd × Int := if (checkN l && checkN m) = true then (minusN l m, 0) else ([], 1)
theorem minusNE_yes {l m : List Nd} (h : checkN l = true) (k : checkN m = true) : minusNE l m = (minusN l m, 0) := by unfold minusNE; rw [h, k]; rfl
theorem minusNE_no {l m : List Nd} (h : (checkN l && checkN m) = false) : minusNE l m = ([], 1) := by unfold minusNE; rw [h]; rfl
theorem fits_small {n : Nd} (h : smallN n) : fitsN n := by
  obtain ⟨h1, h2⟩ := h; unfold fitsN maxLen; omega

theorem nds_one (w : World) (p v : List UInt8) : Nds (w.alloc (.cells #[.string (mkB p), .string (mkB v)] 24)) (.slice (some ⟨w.heap.size, 0, none⟩) 1 1) [(p, v)] :=
  ⟨some ⟨w.heap.size, 0, none⟩, 1, rfl, Nat.le_refl _, by unfold maxLen; omega, (fun h => by cases h), fun _ => ⟨w.heap.size, 0, rfl, by simp, fun j hj => by
    obtain rfl : j = 0 := by simpa using hj
    exact ⟨cell_new rfl rfl, cell_new rfl rfl⟩⟩⟩
def hasNE (l : List Nd) (n : Nd) : Bool × Int := if (checkN l && okN n) = true then (hasN l n, 0) else (false, 1)
theorem hasNE_yes {l : List Nd} {n : Nd} (h : checkN l = true) (k : okN n = true) : hasNE l n = (hasN l n, 0) := by unfold hasNE; rw [h, k]; rfl
theorem hasNE_no {l : List Nd} {n : Nd} (h : (checkN l && okN n) = false) : hasNE l n = (false, 1) := by unfold hasNE; rw [h]; rfl
end Go.Proofs.YtnngfcjfhhfafaaGreat
