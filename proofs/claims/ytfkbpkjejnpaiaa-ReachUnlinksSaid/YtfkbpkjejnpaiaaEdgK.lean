/- Ends: of the document; the chapter's examples. -/
import Derived.Test.YtfkbpkjejnpaiaaEdgJ
namespace Go.Proofs.Ytfkbpkjejnpaiaa
open Go.RowKit
set_option maxRecDepth 100000

theorem addI_has (m : List Int) (x : Int) : addI m x = if hasB m x then m else m ++ [x] := by
  unfold addI hasB; by_cases h : x ∈ m <;> simp [h]

end Go.Proofs.Ytfkbpkjejnpaiaa
