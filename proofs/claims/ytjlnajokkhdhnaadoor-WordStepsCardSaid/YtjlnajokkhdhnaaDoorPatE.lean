/- The document's Within; the chapter's examples hold. -/
import Derived.Test.YtjlnajokkhdhnaaDoorPatD
namespace Go.Proofs.YtjlnajokkhdhnaaDoor
open Go.RowKit
set_option maxRecDepth 100000

theorem pmay_at (l : List UInt8) (hl : l.length ≤ 1000000000) (r : Bool) (h : pathB l = r) (w : World) :
    Calls Tryd.prog 22 #[.string ⟨l.toArray⟩] w fun e w' => e = .returned (.bool r) ∧ Below w.heap.size w w' := by
  subst h
  have := pmay_any (mkB l) w (by rw [mkB_size]; exact hl)
  rwa [mkB_list] at this
end Go.Proofs.YtjlnajokkhdhnaaDoor
