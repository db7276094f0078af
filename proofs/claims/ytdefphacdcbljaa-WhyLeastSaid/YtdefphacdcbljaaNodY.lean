/- Parts of a slice of nodes, and what a slice of nodes is copied from. -/
import Derived.Test.YtdefphacdcbljaaRolL
import Derived.Test.YtdefphacdcbljaaNodW
import Derived.Lib.SmallJoins
import Derived.Great.BuildSlice
import Derived.ArgAppend
namespace Go.Proofs.Ytdefphacdcbljaa
open Go.RowKit
set_option maxRecDepth 100000

/-! ### Parts of a slice of nodes -/
theorem ndsC_app (l m : List Nd) : ndsC (l ++ m) = ndsC l ++ ndsC m := by simp [ndsC]
theorem ndsC_one (l : List Nd) : ((ndsC l).all fun u => u.oneCell') = true := by
  induction l with
  | nil => rfl
  | cons x l ih =>
    have e : ndsC (x :: l) = .string (mkB x.1) :: .string (mkB x.2) :: ndsC l := rfl
    rw [e, List.all_cons, List.all_cons, ih]; rfl
theorem Nds.cells {w : World} {ad : Addr} {n c : Nat} {l : List Nd} (h : Nds w (.slice (some ad) n c) l) : ∀ j u, (ndsC l)[j]? = some u → w.cell? (ad.add j) = some u := by
  intro j u hj
  have hlt : j < (ndsC l).length := (List.getElem?_eq_some_iff.1 hj).1
  rw [ndsC_len] at hlt
  obtain ⟨k, hk⟩ : ∃ k, j = k * 2 ∨ j = k * 2 + 1 := ⟨j / 2, by omega⟩
  have hkl : k < l.length := by omega
  obtain ⟨b, off, ha, -, c0, c1⟩ := h.at k hkl
  obtain ⟨d0, d1⟩ := ndsC_at l k hkl
  cases ha
  rw [addr_add]
  rcases hk with rfl | rfl
  · rw [d0] at hj; cases hj; exact c0
  · rw [d1] at hj; cases hj; exact c1
theorem Nds.cut {w : World} {a : Option Addr} {n c : Nat} {l : List Nd} (h : Nds w (.slice a n c) l) {i : Nat} (hi : i ≤ l.length) : Nds w (.slice (if c = i then a else a.map (·.add (i * 2))) (n - i) (c - i)) (l.drop i) := by
  obtain ⟨a', c', hv, h1, h2, h3, h4⟩ := h.ex
  injection hv with e1 e2 e3
  subst e1 e2 e3
  refine ⟨_, _, by rw [List.length_drop], by rw [List.length_drop]; omega, by omega, fun hn => ?_, fun hp => ?_⟩
  · by_cases hc : c = i
    · omega
    · rw [if_neg hc] at hn
      have : a = none := by cases a <;> simp_all
      have := h3 this; omega
  · rw [List.length_drop] at hp
    obtain ⟨b, off, rfl, hb, hc⟩ := h4 (by omega)
    refine ⟨b, off + i * 2, ?_, hb, fun j hj => ?_⟩
    · rw [if_neg (by omega)]; simp [addr_add]
    · rw [List.length_drop] at hj
      have := hc (i + j) (by omega)
      have hg : (l.drop i).getD j ([], []) = l.getD (i + j) ([], []) := by simp [List.getD_eq_getElem?_getD, List.getElem?_drop]
      rw [hg, show off + i * 2 + j * 2 = off + (i + j) * 2 by omega]
      exact this
theorem Nds.ahead {w : World} {a : Option Addr} {n c : Nat} {l : List Nd} (h : Nds w (.slice a n c) l) {i : Nat} (hi : i ≤ l.length) : Nds w (sliced a 0 i i 2) (l.take i) := by
  obtain ⟨a', c', hv, h1, h2, h3, h4⟩ := h.ex
  injection hv with e1 e2 e3
  subst e1 e2 e3
  have hl : (l.take i).length = i := by rw [List.length_take]; omega
  refine ⟨if i = 0 then a else a.map (·.add (0 * 2)), i, by unfold sliced; rw [hl]; rfl, by rw [hl]; exact Nat.le_refl _, by omega, fun hn => ?_, fun hp => ?_⟩
  · by_cases hc : i = 0
    · exact hc
    · rw [if_neg hc] at hn
      have : a = none := by cases a <;> simp_all
      have := h3 this; omega
  · rw [hl] at hp
    obtain ⟨b, off, rfl, hb, hc⟩ := h4 (by omega)
    refine ⟨b, off, ?_, hb, fun j hj => ?_⟩
    · rw [if_neg (by omega)]; simp [addr_add]
    · rw [hl] at hj
      have := hc j (by omega)
      have hg : (l.take i).getD j ([], []) = l.getD j ([], []) := by simp [List.getD_eq_getElem?_getD, hj]
      rw [hg]
      exact this

/-! ### The operations -/
theorem run_slice_nd (w : World) (A : Option Addr) (n c i : Nat) (h : i ≤ c) : (Instr.sliceAt 27 (.slice A n c) none (some (.int .i64 i)) (some (.int .i64 i))).run Try.prog w = .ok (sliced A 0 i i 2) w := by
  have h1 : (0 : Int) ≤ (i : Int) := by omega
  have h2 : (i : Int) ≤ (c : Int) := by omega
  go_simp
theorem build_nd (w : World) (x y : ByteArray) : (Instr.buildSlice 27 1 #[(0, .agg #[.string x, .string y])]).run Try.prog w = .ok (.slice (some ⟨w.heap.size, 0, none⟩) 1 1) (w.alloc (.cells #[.string x, .string y] 24)) := by go_simp
theorem Nds.nil {w : World} {A : Option Addr} {n c : Nat} {l : List Nd} (h : Nds w (.slice A n c) l) : A = none → n = 0 ∧ c = 0 := by
  obtain ⟨_, _, hv, h1, _, h3, _⟩ := h.ex
  injection hv with e1 e2 e3
  subst e1 e2 e3
  intro hn
  have := h3 hn
  omega
theorem Nds.src {w : World} {A : Option Addr} {n c : Nat} {l : List Nd} (h : Nds w (.slice A n c) l) : ∀ ad, A = some ad → ∀ j u, (ndsC l)[j]? = some u → w.cell? (ad.add j) = some u := fun _ e => by subst e; exact h.cells

end Go.Proofs.Ytdefphacdcbljaa
