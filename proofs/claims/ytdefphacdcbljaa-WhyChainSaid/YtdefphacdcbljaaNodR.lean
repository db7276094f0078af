/- What comes into the laws: a node, a list of nodes. -/
import Derived.Test.YtdefphacdcbljaaNodW
import Derived.Deep.SlicePairs
import Derived.Lib.SmallJoins
namespace Go.Proofs.Ytdefphacdcbljaa
open Go.RowKit Go.ChangeShapes Go.WideShapes
set_option maxRecDepth 100000

section
variable {H : Type} {enc : TypeId × Value → H} {w : World} {base : Nat} {spare : Nat → Bool} {held : Bool}
theorem node_open {r : Reach} {b0 : Nat} {v : Value} {d : DataW H} {p : List MemPlace} (hv : Value.okWide Try.prog w r b0 24 v) (h : DataW.Trod enc Try.prog w base spare held 24 v d p) :
    ∃ n : Nd, v = .agg #[.string (mkB n.1), .string (mkB n.2)] ∧ fitsN n := by
  obtain ⟨v0, v1, y0, y1, n, rfl, _, _, t0, t1⟩ := Go.Joins.open_agg2 Try.underlying24 (by kernel_rfl) (by kernel_rfl) hv h
  obtain ⟨s0, e0, _, z0⟩ := DataW.trod_string Try.underlying9 t0
  obtain ⟨s1, e1, _, z1⟩ := DataW.trod_string Try.underlying9 t1
  simp only [List.cons.injEq, and_true] at e0 e1
  subst e0 e1
  rw [Lib.size_eq] at z0 z1
  exact ⟨(s0.data.toList, s1.data.toList), by simp only [mkB, Lib.mk_data], z0, z1⟩
theorem nds_of {a : Addr} {len cap m : Nat} {V0 V1 : Nat → Value} (hl : len ≤ cap) (hm : cap ≤ maxLen) (hlm : len ≤ m) (hx : ∀ i, i < m → w.cell? (a.add (i * 2)) = some (V0 i) ∧ w.cell? (a.add (i * 2 + 1)) = some (V1 i) ∧ ∃ n : Nd, V0 i = .string (mkB n.1) ∧ V1 i = .string (mkB n.2) ∧ fitsN n) :
    ∃ l, Nds w (.slice (some a) len cap) l ∧ ∀ n ∈ l, fitsN n := by
  have hch : ∀ i, ∃ n : Nd, i < m → V0 i = .string (mkB n.1) ∧ V1 i = .string (mkB n.2) ∧ fitsN n := fun i => by
    by_cases h : i < m
    · obtain ⟨n, hn⟩ := (hx i h).2.2; exact ⟨n, fun _ => hn⟩
    · exact ⟨([], []), fun k => absurd k h⟩
  obtain ⟨f, hf⟩ := Classical.axiomOfChoice hch
  refine ⟨(List.range len).map f, ?_, fun n hn => ?_⟩
  · have e : ((List.range len).map f).length = len := by simp
    refine ⟨some a, cap, by rw [e], by rw [e]; exact hl, hm, (fun h => by cases h), fun hp => ?_⟩
    rw [e] at hp ⊢
    obtain ⟨b, off, spot⟩ := a
    have h0 := (hx 0 (by omega)).1
    have hspot : spot = none := by simpa [Addr.add] using World.cell?_spot h0
    subst hspot
    have hadd : ∀ j, (⟨b, off, none⟩ : Addr).add j = ⟨b, off + j, none⟩ := fun j => by unfold Addr.add; split <;> simp_all
    refine ⟨b, off, rfl, ?_, fun j hj => ?_⟩
    · have := World.block_lt_of_cell? w _ h0
      simpa [Addr.add] using this
    · obtain ⟨h1, h2, _⟩ := hx j (by omega)
      obtain ⟨g1, g2, _⟩ := hf j (by omega)
      have hd : ((List.range len).map f).getD j ([], []) = f j := by simp [List.getD_eq_getElem?_getD, hj]
      rw [hadd] at h1 h2
      rw [← Nat.add_assoc] at h2
      rw [hd, h1, h2, g1, g2]
      exact ⟨rfl, rfl⟩
  · obtain ⟨i, hi, rfl⟩ := List.mem_map.1 hn
    exact (hf i (by have := List.mem_range.1 hi; omega)).2.2
theorem nds_open {fuel : Nat} {a : Option Addr} {len cap : Nat} {x : DataW H × List MemPlace} (h : DataW.trod enc Try.prog w base spare held fuel 27 [.slice a len cap] = some x) :
    ∃ l, Nds w (.slice a len cap) l ∧ ∀ n ∈ l, fitsN n := by
  rcases Go.Deep.open_slice_pairs Try.underlying27 Try.underlying24 (by kernel_rfl) rfl rfl (by kernel_rfl) (by kernel_rfl) h with ⟨hcs, _⟩ | ⟨ad, l, c, m, n, V0, V1, D0, D1, P0, P1, hcs, _, hl, hm, hmm, _, hx⟩
  · simp only [List.cons.injEq, Value.slice.injEq, and_true] at hcs
    obtain ⟨rfl, rfl, rfl⟩ := hcs
    exact ⟨[], nds_none w, fun l hl => by cases hl⟩
  · simp only [List.cons.injEq, Value.slice.injEq, and_true] at hcs
    obtain ⟨rfl, rfl, rfl⟩ := hcs
    refine nds_of (m := m) (V0 := V0) (V1 := V1) hl hm (by rw [hmm]; split <;> omega) fun i hi => ?_
    obtain ⟨h0, h1, t0, t1⟩ := hx i hi
    obtain ⟨s0, e0, _, z0⟩ := DataW.trod_string Try.underlying9 t0
    obtain ⟨s1, e1, _, z1⟩ := DataW.trod_string Try.underlying9 t1
    simp only [List.cons.injEq, and_true] at e0 e1
    rw [Lib.size_eq] at z0 z1
    exact ⟨h0, h1, (s0.data.toList, s1.data.toList), by rw [e0]; simp only [mkB, Lib.mk_data], by rw [e1]; simp only [mkB, Lib.mk_data], z0, z1⟩
end
end Go.Proofs.Ytdefphacdcbljaa
