/- What comes into the laws: a list of texts. -/
import Derived.Test.YtceefoiffkgliaaOctP
import Derived.Deep.Strs
import Derived.Lib.SmallJoins
namespace Go.Proofs.Ytceefoiffkgliaa
open Go.RowKit Go.ChangeShapes Go.WideShapes
set_option maxRecDepth 100000

theorem strs_of {w : World} {a : Addr} {len cap m : Nat} {Sx : Nat → ByteArray} (hl : len ≤ cap) (hm : cap ≤ maxLen) (hlm : len ≤ m) (hx : ∀ i, i < m → w.cell? (a.add i) = some (.string (Sx i)) ∧ (Sx i).size ≤ maxLen) :
    ∃ zs, Strs w (.slice (some a) len cap) zs ∧ ∀ l ∈ zs, l.length ≤ maxLen := by
  refine ⟨(List.range len).map fun i => (Sx i).data.toList, ?_, fun l hl => ?_⟩
  · have e : ((List.range len).map fun i => (Sx i).data.toList).length = len := by simp
    refine ⟨some a, cap, by rw [e], by rw [e]; exact hl, hm, (fun h => by cases h), fun hp => ?_⟩
    rw [e] at hp ⊢
    obtain ⟨b, off, spot⟩ := a
    have h0 := (hx 0 (by omega)).1
    have hspot : spot = none := by simpa [Addr.add] using World.cell?_spot h0
    subst hspot
    refine ⟨b, off, rfl, ?_, fun j hj => ?_⟩
    · have := World.block_lt_of_cell? w _ h0
      simpa [Addr.add] using this
    · have h1 := (hx j (by omega)).1
      have h2 : (⟨b, off, none⟩ : Addr).add j = ⟨b, off + j, none⟩ := by unfold Addr.add; split <;> simp_all
      rw [h2] at h1
      rw [h1]
      unfold strV
      congr 2
      have : ((List.range len).map fun i => (Sx i).data.toList).getD j [] = (Sx j).data.toList := by
        simp [List.getD_eq_getElem?_getD, hj]
      rw [this, Lib.mk_data]
  · obtain ⟨i, hi, rfl⟩ := List.mem_map.1 hl
    have := (hx i (by have := List.mem_range.1 hi; omega)).2
    rw [Lib.size_eq] at this
    exact this

section
variable {H : Type} {enc : TypeId × Value → H} {w : World} {base : Nat} {spare : Nat → Bool} {held : Bool}
theorem strs_open {fuel : Nat} {a : Option Addr} {len cap : Nat} {x : DataW H × List MemPlace} (h : DataW.trod enc Try.prog w base spare held fuel 23 [.slice a len cap] = some x) :
    ∃ zs, Strs w (.slice a len cap) zs ∧ ∀ l ∈ zs, l.length ≤ maxLen := by
  rcases Go.Deep.open_strs Try.underlying23 Try.underlying9 (by kernel_rfl) h with ⟨hcs, _⟩ | ⟨ad, l, c, m, Sx, hcs, _, hl, hm, hmm, _, hx⟩
  · simp only [List.cons.injEq, Value.slice.injEq, and_true] at hcs
    obtain ⟨rfl, rfl, rfl⟩ := hcs
    exact ⟨[], strs_none w, fun l hl => by cases hl⟩
  · simp only [List.cons.injEq, Value.slice.injEq, and_true] at hcs
    obtain ⟨rfl, rfl, rfl⟩ := hcs
    exact strs_of hl hm (by rw [hmm]; split <;> omega) hx
end
end Go.Proofs.Ytceefoiffkgliaa
