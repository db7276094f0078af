/- The chapter's examples; and what the laws on edges have in common. -/
import Derived.Test.YtfkbpkjejnpaiaaEdgK
namespace Go.Proofs.Ytfkbpkjejnpaiaa
open Go.RowKit
set_option maxRecDepth 100000

/-! ### Numbers of 16 bits that come in -/
def fitU16 (z : Int) : Prop := 0 ≤ z ∧ z ≤ 65535
structure U16s (w : World) (v : Value) (zs : List Int) : Prop where
  ex : ∃ a c, v = .slice a zs.length c ∧ zs.length ≤ c ∧ c ≤ maxLen ∧ (0 < zs.length → ∃ b off, a = some ⟨b, off, none⟩ ∧ b < w.heap.size ∧ ∀ j, j < zs.length → w.cell? ⟨b, off + j, none⟩ = some (.int .u16 (zs.getD j 0)))
theorem U16s.below {w w' : World} {v : Value} {zs : List Int} (h : U16s w v zs) (hb : Below w.heap.size w w') : U16s w' v zs := by
  obtain ⟨a, c, hv, h1, h2, h3⟩ := h.ex
  refine ⟨a, c, hv, h1, h2, fun hp => ?_⟩
  obtain ⟨b, off, ha, hlt, hc⟩ := h3 hp
  exact ⟨b, off, ha, Nat.lt_of_lt_of_le hlt hb.size, fun j hj => by rw [hb.cell (by exact hlt)]; exact hc j hj⟩
theorem U16s.at {w : World} {a : Option Addr} {n c : Nat} {zs : List Int} (h : U16s w (.slice a n c) zs) (k : Nat) (hk : k < zs.length) : ∃ b off, a = some ⟨b, off, none⟩ ∧ b < w.heap.size ∧ ∀ j, j < zs.length → w.cell? ⟨b, off + j, none⟩ = some (.int .u16 (zs.getD j 0)) := by
  obtain ⟨a', c', hv, _, _, h3⟩ := h.ex
  injection hv with e1 e2 e3
  subst e1
  exact h3 (by omega)
section
open Go.ChangeShapes Go.WideShapes
variable {H : Type} {enc : TypeId × Value → H} {w : World} {base : Nat} {spare : Nat → Bool} {held : Bool}
theorem u16s_open {fuel : Nat} {a : Option Addr} {len cap : Nat} {x : DataW H × List MemPlace} (h : DataW.trod enc Try.prog w base spare held fuel 47 [.slice a len cap] = some x) :
    ∃ l, U16s w (.slice a len cap) l ∧ ∀ e ∈ l, fitU16 e := by
  rcases open_ints Try.underlying47 Try.underlying48 (by kernel_rfl) h with ⟨hcs, _⟩ | ⟨ad, l, c, zs, hcs, _, hl, hm, hz, _, hcell, hwf⟩
  · simp only [List.cons.injEq, Value.slice.injEq, and_true] at hcs
    obtain ⟨rfl, rfl, rfl⟩ := hcs
    exact ⟨[], ⟨none, 0, rfl, Nat.le_refl _, by unfold maxLen; omega, fun h => absurd h (by simp)⟩, fun e he => by cases he⟩
  · simp only [List.cons.injEq, Value.slice.injEq, and_true] at hcs
    obtain ⟨rfl, rfl, rfl⟩ := hcs
    have hlz : len ≤ zs.length := by rw [hz]; split <;> omega
    have e : (zs.take len).length = len := by rw [List.length_take]; omega
    refine ⟨zs.take len, ⟨some ad, cap, by rw [e], by rw [e]; exact hl, hm, fun hp => ?_⟩, fun z hz => ?_⟩
    · rw [e] at hp ⊢
      obtain ⟨b, off, spot⟩ := ad
      have h0 := hcell 0 (by omega)
      have hspot : spot = none := by simpa [Addr.add] using World.cell?_spot h0
      subst hspot
      refine ⟨b, off, rfl, ?_, fun j hj => ?_⟩
      · have := World.block_lt_of_cell? w _ h0
        simpa [Addr.add] using this
      · have h1 := hcell j (by omega)
        rw [addr_add] at h1
        rw [h1]
        congr 2
        simp only [List.getD_eq_getElem?_getD, List.getElem?_take, if_pos hj]
    · have h1 := hwf z (List.mem_of_mem_take hz)
      have h2 : (decide (IntKind.u16.min ≤ z) && decide (z ≤ IntKind.u16.max)) = true := h1
      rw [Bool.and_eq_true, decide_eq_true_eq, decide_eq_true_eq] at h2
      exact h2
end
end Go.Proofs.Ytfkbpkjejnpaiaa
