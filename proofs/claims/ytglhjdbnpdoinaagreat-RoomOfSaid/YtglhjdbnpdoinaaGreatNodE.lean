/- A list of nodes as cells, two each. -/
import Derived.Test.YtglhjdbnpdoinaaGreatNodC
import Derived.WalkKit
import Derived.Maps.AppendAt
namespace Go.Proofs.YtglhjdbnpdoinaaGreat
open Go.RowKit Go.Maps
set_option maxRecDepth 100000

theorem Tryz.info_node : (Tryz.prog.info? 26).map (fun i => (i.zero, i.size, i.bytes)) = some (some (.agg #[.string ByteArray.empty, .string ByteArray.empty]), 2, 32) := by kernel_rfl
def ndsC (ns : List Nd) : List Value := ns.flatMap fun n => [.string (mkB n.1), .string (mkB n.2)]
theorem ndsC_len (ns : List Nd) : (ndsC ns).length = ns.length * 2 := by
  induction ns with
  | nil => rfl
  | cons x l ih => simp only [ndsC, List.flatMap_cons, List.length_append, List.length_cons, List.length_nil] at ih ⊢; omega
theorem ndsC_snoc (ns : List Nd) (x : Nd) : ndsC (ns ++ [x]) = ndsC ns ++ [.string (mkB x.1), .string (mkB x.2)] := by simp [ndsC]
end Go.Proofs.YtglhjdbnpdoinaaGreat
