/- The chapter's examples hold, in every world. -/
import Derived.Test.YtflaopmlmecdcaaDoorOctF
namespace Go.Proofs.YtflaopmlmecdcaaDoor
open Go.RowKit

theorem cmp_awake (w : World) :
    Calls Tryd.prog 19 #[.string ⟨#[97, 98]⟩, .string ⟨#[97, 98, 99]⟩] w fun e w' => e = .returned (.int .i64 (-1)) ∧ w = w' :=
  (cmp_any ⟨#[97, 98]⟩ ⟨#[97, 98, 99]⟩ w)

end Go.Proofs.YtflaopmlmecdcaaDoor
