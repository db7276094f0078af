/- The chapter's examples hold, in every world. -/
import Derived.Test.YtonmifohcgddoaaOctF
namespace Go.Proofs.Ytonmifohcgddoaa
open Go.RowKit

theorem parts_awake (w : World) :
    Calls Try.prog 22 #[.string ⟨#[97, 47, 47, 98]⟩, .int .u8 47] w fun e w' => ∃ g cap, e = .returned (.slice (some ⟨g, 0, none⟩) 3 cap) ∧ g < w'.heap.size ∧
      w'.cell? ⟨g, 0, none⟩ = some (.string ⟨#[97]⟩) ∧ w'.cell? ⟨g, 1, none⟩ = some (.string ⟨#[]⟩) ∧ w'.cell? ⟨g, 2, none⟩ = some (.string ⟨#[98]⟩) ∧ Below w.heap.size w w' := by
  refine (parts_any ⟨#[97, 47, 47, 98]⟩ 47 w (by decide)).mono ?_
  rintro e w' ⟨v, rfl, hown, hb⟩
  have e1 : splitL 47 [97, 47, 47, 98] = [[97], [], [98]] := by decide
  simp only [e1] at hown
  obtain ⟨g, cap, rfl⟩ := Joins.ownsRow_form hown (by decide)
  exact ⟨g, cap, rfl, (hown.lt g rfl).2, hown.cellAt 0 (by decide), hown.cellAt 1 (by decide), hown.cellAt 2 (by decide), hb⟩

theorem cmp_awake (w : World) :
    Calls Try.prog 19 #[.string ⟨#[97, 98]⟩, .string ⟨#[97, 98, 99]⟩] w fun e w' => e = .returned (.int .i64 (-1)) ∧ w = w' :=
  (cmp_any ⟨#[97, 98]⟩ ⟨#[97, 98, 99]⟩ w)

theorem class_awake (w : World) :
    Calls Try.prog 11 #[.int .u8 97] w fun e w' => e = .returned (.int .i64 2) ∧ Below w.heap.size w w' := by
  have h := class_any 97 (by omega) (by omega) w
  rwa [show clsI 97 = 2 by decide +kernel] at h

set_option maxHeartbeats 400000 in
theorem awake_any (w : World) :
    Calls Try.prog 17 #[] w fun e w' => e = .returned (.bool true) ∧ Below w.heap.size w w' := by
  go_enter Try.func17, Try.ntmps17
  go_wp2_with (first
    | (go_at_call 22; refine (parts_awake _).mono ?_; rintro e w1 ⟨g, cap, rfl, hg, c0, c1, c2, hb1⟩)
    | (go_at_call 11; refine (class_awake _).mono ?_; rintro e w2 ⟨rfl, hb2⟩; have d0 := (hb2.cell (p := ⟨g, 0, none⟩) hg).trans c0; have d1 := (hb2.cell (p := ⟨g, 1, none⟩) hg).trans c1; have d2 := (hb2.cell (p := ⟨g, 2, none⟩) hg).trans c2)
    | (go_at_call 19; refine (cmp_awake _).mono ?_; rintro e w3 ⟨rfl, rfl⟩))
  go_ret
  exact ⟨rfl, hb1.trans (hb2.mono hb1.size)⟩
end Go.Proofs.Ytonmifohcgddoaa
