/- The document's own: a set with a node; the set of a list. -/
import Derived.Test.YtlbibgofhhdgoaaGreatNodQ
import Derived.Deep.Draws
import Derived.Deep.QuietTactic
import Derived.BigQuiet
import Derived.Deep.RegionWith
import Derived.Deep.CutRange
import Derived.Deep.DeepCutAuto
import Derived.Deep.RegionHeld3
import Derived.Deep.DrawnRows
namespace Go.Proofs.YtlbibgofhhdgoaaGreat
open Go.RowKit
set_option maxRecDepth 100000
attribute [local go_sem ↓] Go.wp_at_zero Go.wp_at_succ

theorem filter_take_succ {l : List Nd} {k : Nat} {f : Nd → Bool} (h : k < l.length) : (l.take (k + 1)).filter f = (l.take k).filter f ++ (if f (l.getD k ([], [])) = true then [l.getD k ([], [])] else []) := by
  rw [List.take_succ_eq_append_getElem h, List.filter_append, nd_getD h]
  congr 1
  cases e : f l[k] <;> simp [e]

/-! ### The set of a list -/
end Go.Proofs.YtlbibgofhhdgoaaGreat
