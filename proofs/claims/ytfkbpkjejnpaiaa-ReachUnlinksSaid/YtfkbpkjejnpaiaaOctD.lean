/- Is an octet of one of some classes; are all of a text: of the program and of the document. -/
import Derived.Test.YtfkbpkjejnpaiaaOctC
import Derived.Test.YtfkbpkjejnpaiaaOctB
namespace Go.Proofs.Ytfkbpkjejnpaiaa
open Go.RowKit
set_option maxRecDepth 100000

/-- A slice of numbers, in memory: nil, empty, or cells that hold them. -/
structure Ints (w : World) (v : Value) (zs : List Int) : Prop where
  ex : ∃ a c, v = .slice a zs.length c ∧ zs.length ≤ c ∧ c ≤ maxLen ∧ (a = none → c = 0) ∧ (0 < zs.length → ∃ b off, a = some ⟨b, off, none⟩ ∧ b < w.heap.size ∧ ∀ j, j < zs.length → w.cell? ⟨b, off + j, none⟩ = some (.int .i64 (zs.getD j 0)))

theorem Ints.below {w w' : World} {v : Value} {zs : List Int} (h : Ints w v zs) (hb : Bel w.heap.size w w') : Ints w' v zs := by
  obtain ⟨a, c, hv, h1, h2, hn, h3⟩ := h.ex
  refine ⟨a, c, hv, h1, h2, hn, fun hp => ?_⟩
  obtain ⟨b, off, ha, hlt, hc⟩ := h3 hp
  exact ⟨b, off, ha, Nat.lt_of_lt_of_le hlt hb.size, fun j hj => by rw [hb.cell (by exact hlt)]; exact hc j hj⟩
theorem Ints.drewN {w : World} {v : Value} {zs : List Int} (n : Nat) (h : Ints w v zs) : Ints (w.drewN n) v zs := by
  obtain ⟨a, c, hv, h1, h2, hn, h3⟩ := h.ex
  refine ⟨a, c, hv, h1, h2, hn, fun hp => ?_⟩
  obtain ⟨b, off, ha, hlt, hc⟩ := h3 hp
  exact ⟨b, off, ha, by simpa using hlt, fun j hj => by have := hc j hj; simpa using this⟩

def hasB (zs : List Int) (x : Int) : Bool := decide (x ∈ zs)

theorem hasB_drop (zs : List Int) (k : Nat) (x : Int) (h : k < zs.length) : hasB (zs.drop k) x = (decide (zs.getD k 0 = x) || hasB (zs.drop (k + 1)) x) := by
  unfold hasB
  have e : zs.getD k 0 = zs[k] := by simp [List.getD_eq_getElem?_getD, List.getElem?_eq_getElem h]
  rw [e, List.drop_eq_getElem_cons h]
  simp only [List.mem_cons]
  by_cases hx : zs[k] = x
  · simp [hx]
  · have hx' : ¬ x = zs[k] := fun e => hx e.symm
    simp only [hx, hx', false_or, decide_false, Bool.false_or]
theorem hasB_end (zs : List Int) (k : Nat) (x : Int) (h : zs.length ≤ k) : hasB (zs.drop k) x = false := by
  unfold hasB; rw [List.drop_eq_nil_of_le h]; simp

end Go.Proofs.Ytfkbpkjejnpaiaa
