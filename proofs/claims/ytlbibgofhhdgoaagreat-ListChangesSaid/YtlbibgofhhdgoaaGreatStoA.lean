/- THE TEXTS OF PatN StoA: Paths: plain facts of the laws. Lists put together: slices.Grow from nil, slices.Concat, of nodes and of texts; parts of slices. -/
import Derived.Test.YtlbibgofhhdgoaaGreatPatF
import Derived.Test.YtlbibgofhhdgoaaGreatNodY
import Derived.Test.YtlbibgofhhdgoaaGreatRolB
import Derived.Lib.AppendZeros
namespace Go.Proofs.YtlbibgofhhdgoaaGreat
open Go.RowKit
set_option maxRecDepth 100000

theorem Strs.last {w : World} {a : Option Addr} {n c : Nat} {es : List (List UInt8)} {l : List UInt8} (h : Strs w (.slice a n c) es) (hn : es.length = n) (h0 : 0 < n) (hl : l = es.getD (n - 1) []) :
    ∃ b off, a = some ⟨b, off, none⟩ ∧ b < w.heap.size ∧ w.cell? ⟨b, off + (n - 1), none⟩ = some (.string (mkB l)) := by
  subst hn hl
  obtain ⟨a', c', hv, _, _, _, h3⟩ := h.ex
  injection hv with e1 e2 e3
  subst e1 e3
  obtain ⟨b, off, rfl, hlt, hc⟩ := h3 h0
  exact ⟨b, off, rfl, hlt, hc _ (by omega)⟩
end Go.Proofs.YtlbibgofhhdgoaaGreat

namespace Go.Proofs.YtlbibgofhhdgoaaGreat
open Go.RowKit
set_option linter.unusedVariables false
set_option maxRecDepth 100000

/-! ### Slices of texts -/
def strC (l : List (List UInt8)) : List Value := l.map strV
theorem strC_len (l : List (List UInt8)) : (strC l).length = l.length * 1 := by simp [strC]
theorem strC_app (l m : List (List UInt8)) : strC (l ++ m) = strC l ++ strC m := by simp [strC]
theorem Strs.belowB {w w' : World} {v : Value} {zs : List (List UInt8)} (h : Strs w v zs) (hb : Below w.heap.size w w') : Strs w' v zs := by
  obtain ⟨a, c, hv, h1, h2, hn, h3⟩ := h.ex
  refine ⟨a, c, hv, h1, h2, hn, fun hp => ?_⟩
  obtain ⟨b, off, ha, hlt, hc⟩ := h3 hp
  exact ⟨b, off, ha, Nat.lt_of_lt_of_le hlt hb.size, fun j hj => by rw [hb.cell (by exact hlt)]; exact hc j hj⟩
theorem Strs.nil {w : World} {A : Option Addr} {n c : Nat} {l : List (List UInt8)} (h : Strs w (.slice A n c) l) : A = none → n = 0 ∧ c = 0 := h.src.2.1
theorem Strs.cells {w : World} {A : Option Addr} {n c : Nat} {l : List (List UInt8)} (h : Strs w (.slice A n c) l) : ∀ ad, A = some ad → ∀ j u, (strC l)[j]? = some u → w.cell? (ad.add j) = some u := h.src.2.2
theorem stsO {w : World} {base : Nat} {e : TypeId} {v : Value} {ns : List (List UInt8)} (h : w.ownsRow base e 1 v ns.length (strC ns)) : ∃ a c, v = .slice a ns.length c ∧ Strs w (.slice a ns.length c) ns := by
  have hst := Strs.owned h
  obtain ⟨a, c, rfl, _⟩ := hst.ex
  exact ⟨a, c, rfl, hst⟩
theorem Strs.lenE {w : World} {A : Option Addr} {n c : Nat} {l : List (List UInt8)} (h : Strs w (.slice A n c) l) : l.length = n ∧ n ≤ c ∧ c ≤ maxLen := by
  obtain ⟨_, _, hv, h1, h2, _⟩ := h.ex
  injection hv with e1 e2 e3
  subst e2 e3; exact ⟨rfl, h1, h2⟩
theorem Nds.lenE {w : World} {A : Option Addr} {n c : Nat} {l : List Nd} (h : Nds w (.slice A n c) l) : l.length = n ∧ n ≤ c ∧ c ≤ maxLen := by
  obtain ⟨_, _, hv, h1, h2, _⟩ := h.ex
  injection hv with e1 e2 e3
  subst e2 e3; exact ⟨rfl, h1, h2⟩
/-! ### Nds -/
/-- A slice of slices, in memory. -/
structure NdsL (w : World) (v : Value) (ls : List (List (Nd))) : Prop where
  ex : ∃ b off c, v = .slice (some ⟨b, off, none⟩) ls.length c ∧ ls.length ≤ c ∧ c ≤ maxLen ∧ ∀ j, j < ls.length → ∃ a n c', w.cell? ⟨b, off + j, none⟩ = some (.slice a n c') ∧ Nds w (.slice a n c') (ls.getD j [])
theorem NdsL.below {w w' : World} {v : Value} {ls : List (List (Nd))} (h : NdsL w v ls) (hb : Below w.heap.size w w') : NdsL w' v ls := by
  obtain ⟨b, off, c, hv, h1, h2, h3⟩ := h.ex
  refine ⟨b, off, c, hv, h1, h2, fun j hj => ?_⟩
  obtain ⟨a, n, c', h4, h5⟩ := h3 j hj
  exact ⟨a, n, c', cell_keep h4 hb, Nds.below h5 hb⟩
/-! ### Strs -/
/-- A slice of slices, in memory. -/
structure StrsL (w : World) (v : Value) (ls : List (List (List UInt8))) : Prop where
  ex : ∃ b off c, v = .slice (some ⟨b, off, none⟩) ls.length c ∧ ls.length ≤ c ∧ c ≤ maxLen ∧ ∀ j, j < ls.length → ∃ a n c', w.cell? ⟨b, off + j, none⟩ = some (.slice a n c') ∧ Strs w (.slice a n c') (ls.getD j [])
theorem StrsL.below {w w' : World} {v : Value} {ls : List (List (List UInt8))} (h : StrsL w v ls) (hb : Below w.heap.size w w') : StrsL w' v ls := by
  obtain ⟨b, off, c, hv, h1, h2, h3⟩ := h.ex
  refine ⟨b, off, c, hv, h1, h2, fun j hj => ?_⟩
  obtain ⟨a, n, c', h4, h5⟩ := h3 j hj
  exact ⟨a, n, c', cell_keep h4 hb, Strs.belowB h5 hb⟩
theorem st_back (w : World) (A : Option Addr) (n c i : Nat) (h : i ≤ n) (hc : n ≤ c) : (Instr.sliceAt 61 (.slice A n c) (some (.int .i64 i)) none none).run Tryz.prog w = .ok (sliced A i n c 1) w := by
  have h1 : (0 : Int) ≤ (i : Int) := by omega
  have h2 : (i : Int) ≤ (n : Int) := by omega
  have h3 : (n : Int) ≤ (c : Int) := by omega
  go_simp
end Go.Proofs.YtlbibgofhhdgoaaGreat
