/- The chapter's examples hold, in every world. -/
import Derived.Test.YtjlnajokkhdhnaaDoorOctF
namespace Go.Proofs.YtjlnajokkhdhnaaDoor
open Go.RowKit
set_option maxRecDepth 100000

theorem parts_awake (w : World) :
    Calls Tryd.prog 50 #[.string ⟨#[97, 47, 47, 98]⟩, .int .u8 47] w fun e w' => ∃ g cap, e = .returned (.slice (some ⟨g, 0, none⟩) 3 cap) ∧ g < w'.heap.size ∧
      w'.cell? ⟨g, 0, none⟩ = some (.string ⟨#[97]⟩) ∧ w'.cell? ⟨g, 1, none⟩ = some (.string ⟨#[]⟩) ∧ w'.cell? ⟨g, 2, none⟩ = some (.string ⟨#[98]⟩) ∧ Below w.heap.size w w' := by
  refine (parts_any ⟨#[97, 47, 47, 98]⟩ 47 w (by decide)).mono ?_
  rintro e w' ⟨v, rfl, hown, hb⟩
  have e1 : splitL 47 [97, 47, 47, 98] = [[97], [], [98]] := by decide
  simp only [e1] at hown
  obtain ⟨g, cap, rfl⟩ := Joins.ownsRow_form hown (by decide)
  exact ⟨g, cap, rfl, (hown.lt g rfl).2, hown.cellAt 0 (by decide), hown.cellAt 1 (by decide), hown.cellAt 2 (by decide), hb⟩

theorem class_awake (w : World) :
    Calls Tryd.prog 65 #[.int .u8 97] w fun e w' => e = .returned (.int .i64 2) ∧ Below w.heap.size w w' := by
  have h := class_any 97 (by omega) (by omega) w
  rwa [show clsI 97 = 2 by decide +kernel] at h

end Go.Proofs.YtjlnajokkhdhnaaDoor
