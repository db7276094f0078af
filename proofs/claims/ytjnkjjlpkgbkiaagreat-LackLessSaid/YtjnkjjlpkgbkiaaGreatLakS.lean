/- What the laws of needs with a node lean on: a node is put into a box. -/
import Derived.Test.YtjnkjjlpkgbkiaaGreatLakN
namespace Go.Proofs.YtjnkjjlpkgbkiaaGreat
open Go.RowKit
set_option linter.unusedVariables false
set_option maxRecDepth 100000

theorem boxHK (w : World) (x y : Value) (t : TypeId) : ∃ W g, w.alloc (.cells #[x, y] t) = W ∧ w.heap.size = g ∧ W.heap[g]? = some (.cells #[x, y] t (0, 0)) ∧ Below w.heap.size w W :=
  ⟨_, _, rfl, rfl, heap_alloc_new _ _, (Below.refl _ _).alloc (Nat.le_refl _) _⟩
theorem st_ndK {w : World} {g : Nat} {q1 q2 : List UInt8} {x0 y0 : Value} {t : TypeId} (h : w.heap[g]? = some (.cells #[x0, y0] t (0, 0))) : Sem.run Tryz.prog (Instr.storeAt 42 (.pointer (some ⟨g, 0, none⟩)) (.agg #[.string (mkB q1), .string (mkB q2)])) w = .ok () ((w.setCell ⟨g, 0, none⟩ (.string (mkB q1))).setCell ⟨g, 1, none⟩ (.string (mkB q2))) := by
  obtain ⟨d0, d1, f0, f1⟩ := row2 h
  go_simp
section
variable {ops : Array Oper} {Q : Exit → Act → World → Prop} {a : Act} {w w0 : World} {who : Nat → Nat} {i B r ro : Nat} {o : Oper}
/-- A node is put into a box. -/
theorem rol_box_ndK (ho : ops[i]? = some o) (hw : Region.wanted o (yielded ops a.tmps) = true) (hd : o.dst = none) {x y : Operand} {g : Nat} (hop : o.op = .store 42 x y) (hx : a.eval x = .pointer (some ⟨g, 0, none⟩)) {q1 q2 : List UInt8} (hy : a.eval y = .agg #[.string (mkB q1), .string (mkB q2)])
    {x0 y0 : Value} {ty : TypeId} (hg : (RLeaf.box g (.cells #[x0, y0] ty)).holds r a w who) (hb : Below B w0 w) (hB : B ≤ g) : wpOp Tryz.prog ops Q i (RPost ops i r r (.box g (.cells #[.string (mkB q1), .string (mkB q2)] ty)) B w0 a w who) a w := by
  refine rol_store ho hw hd (ex_store hop hx hy (st_ndK hg.1)) hg (row2_set hg.1 _ _) (fun k hk => ?_) (by simp [World.setCell]) ((hb.setCell hB _).setCell hB _)
  rw [Below.heap_setCell _ ⟨g, 1, none⟩ _ k hk, Below.heap_setCell _ ⟨g, 0, none⟩ _ k hk]
end
end Go.Proofs.YtjnkjjlpkgbkiaaGreat
