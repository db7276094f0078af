/- Lists of nodes in memory. -/
import Derived.Test.YtglhjdbnpdoinaaGreatNodB
import Derived.Test.YtglhjdbnpdoinaaGreatNodC
namespace Go.Proofs.YtglhjdbnpdoinaaGreat
open Go.RowKit
set_option maxRecDepth 100000

/-- A slice of nodes, in memory: nil, empty, or cells that hold them, two each. -/
structure Nds (w : World) (v : Value) (ns : List Nd) : Prop where
  ex : ∃ a c, v = .slice a ns.length c ∧ ns.length ≤ c ∧ c ≤ maxLen ∧ (a = none → c = 0) ∧ (0 < ns.length → ∃ b off, a = some ⟨b, off, none⟩ ∧ b < w.heap.size ∧ ∀ j, j < ns.length →
    w.cell? ⟨b, off + j * 2, none⟩ = some (.string (mkB (ns.getD j ([], [])).1)) ∧ w.cell? ⟨b, off + j * 2 + 1, none⟩ = some (.string (mkB (ns.getD j ([], [])).2)))
theorem Nds.below {w w' : World} {v : Value} {zs : List Nd} (h : Nds w v zs) (hb : Below w.heap.size w w') : Nds w' v zs := by
  obtain ⟨a, c, hv, h1, h2, hn, h3⟩ := h.ex
  refine ⟨a, c, hv, h1, h2, hn, fun hp => ?_⟩
  obtain ⟨b, off, ha, hlt, hc⟩ := h3 hp
  exact ⟨b, off, ha, Nat.lt_of_lt_of_le hlt hb.size, fun j hj => ⟨by rw [hb.cell (by exact hlt)]; exact (hc j hj).1, by rw [hb.cell (by exact hlt)]; exact (hc j hj).2⟩⟩

end Go.Proofs.YtglhjdbnpdoinaaGreat
