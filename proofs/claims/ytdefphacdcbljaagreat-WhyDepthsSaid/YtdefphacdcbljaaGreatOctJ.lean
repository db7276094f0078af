/- What strings.Join puts together. -/
import Derived.Test.YtdefphacdcbljaaGreatOctP
import Derived.Test.YtdefphacdcbljaaGreatOctS
namespace Go.Proofs.YtdefphacdcbljaaGreat
open Go.RowKit
set_option maxRecDepth 100000

theorem join_jn (x : UInt8) (pre : List (List UInt8)) : Lib.join pre [x] = jn x pre := by
  cases pre with
  | nil => rfl
  | cons p ps =>
    rw [Lib.join_cons]
    unfold Lib.joinTail
    show p ++ _ = p ++ _
    rw [List.flatMap_def]
    rfl
end Go.Proofs.YtdefphacdcbljaaGreat
