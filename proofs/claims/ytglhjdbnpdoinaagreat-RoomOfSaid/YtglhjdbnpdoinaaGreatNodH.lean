/- Lists of nodes that a call makes: those of one that are not in another one; a node, and nodes, as many as are looked at; two lists' sameness; whether a node is in one: of the document. -/
import Derived.Test.YtglhjdbnpdoinaaGreatNodG
import Derived.Test.YtglhjdbnpdoinaaGreatNodE
import Derived.StillTailTactics
namespace Go.Proofs.YtglhjdbnpdoinaaGreat
open Go.RowKit
set_option maxRecDepth 100000

theorem ndsC_at (ns : List Nd) : ∀ j, j < ns.length → (ndsC ns)[j * 2]? = some (.string (mkB (ns.getD j ([], [])).1)) ∧ (ndsC ns)[j * 2 + 1]? = some (.string (mkB (ns.getD j ([], [])).2)) := by
  induction ns with
  | nil => intro j hj; exact absurd hj (Nat.not_lt_zero j)
  | cons x l ih =>
    intro j hj
    have e : ndsC (x :: l) = .string (mkB x.1) :: .string (mkB x.2) :: ndsC l := rfl
    rw [e]
    cases j with
    | zero => exact ⟨rfl, rfl⟩
    | succ j =>
      have := ih j (by simpa using hj)
      rw [show (j + 1) * 2 = j * 2 + 1 + 1 by omega, show j * 2 + 1 + 1 + 1 = (j * 2 + 1) + 1 + 1 by omega]
      simpa using this
theorem Nds.owned {w : World} {base : Nat} {e : TypeId} {v : Value} {ns : List Nd} (h : w.ownsRow base e 2 v ns.length (ndsC ns)) : Nds w v ns := by
  rcases Joins.ownsRow_forms h with ⟨rfl, h0⟩ | ⟨g, cap, rfl⟩
  · have : ns = [] := List.eq_nil_of_length_eq_zero h0
    subst this
    exact ⟨none, 0, rfl, Nat.le_refl _, by unfold maxLen; omega, fun _ => rfl, fun h => absurd h (by simp)⟩
  · have hlt := h.lt g rfl
    have hcap : ns.length ≤ cap ∧ cap ≤ maxLen := by
      obtain ⟨_, h | ⟨g', cap', cur, hv, _, _, h1, h2, _⟩⟩ := h
      · cases h.1
      · injection hv with _ _ hc; subst hc; exact ⟨h1, h2⟩
    refine ⟨some ⟨g, 0, none⟩, cap, rfl, hcap.1, hcap.2, (fun h => by cases h), fun _ => ⟨g, 0, rfl, hlt.2, fun j hj => ?_⟩⟩
    have := ndsC_at ns j hj
    rw [Nat.zero_add, h.cellAt (j * 2) (by omega), h.cellAt (j * 2 + 1) (by omega)]
    exact this
theorem ndsO {w : World} {base : Nat} {e : TypeId} {v : Value} {ns : List Nd} (h : w.ownsRow base e 2 v ns.length (ndsC ns)) : ∃ a c, v = .slice a ns.length c ∧ Nds w (.slice a ns.length c) ns := by
  have hst := Nds.owned h
  obtain ⟨a, c, rfl, _⟩ := hst.ex
  exact ⟨a, c, rfl, hst⟩
theorem nds_none (w : World) : Nds w (.slice none 0 0) [] := ⟨none, 0, rfl, Nat.le_refl _, by unfold maxLen; omega, fun _ => rfl, fun h => absurd h (by simp)⟩

/-! ### Is a node in a list -/
/-! ### Are two lists the same -/
end Go.Proofs.YtglhjdbnpdoinaaGreat
