/- The document's own Split. -/
import Derived.Test.YtopcbmmnjmmoiaaVerE
namespace Go.Proofs.Ytopcbmmnjmmoiaa
open Go.RowKit
set_option maxRecDepth 100000

theorem two_rows (w : World) : ((w.alloc (.cells zeroV4 61)).alloc (.cells zeroV4 61)).heap[w.heap.size]? = some (.cells zeroV4 61) ∧
    ((w.alloc (.cells zeroV4 61)).alloc (.cells zeroV4 61)).heap[w.heap.size + 1]? = some (.cells zeroV4 61) ∧ Bel w.heap.size w ((w.alloc (.cells zeroV4 61)).alloc (.cells zeroV4 61)) := by
  refine ⟨?_, ?_, ((Bel.refl _ _).alloc (Nat.le_refl _) _).alloc (by simp) _⟩
  · rw [Below.heap_alloc _ _ _ (by simp)]; exact heap_alloc_new _ _
  · have := heap_alloc_new (w.alloc (.cells zeroV4 61)) (.cells zeroV4 61)
    simpa using this
theorem row4_set012 {w : World} {g : Nat} {x0 x1 x2 x3 : Value} {t : TypeId} (h : w.heap[g]? = some (.cells #[x0, x1, x2, x3] t (0, 0))) (y0 y1 y2 : Value) :
    (((w.setCell ⟨g, 0, none⟩ y0).setCell ⟨g, 1, none⟩ y1).setCell ⟨g, 2, none⟩ y2).heap[g]? = some (.cells #[y0, y1, y2, x3] t (0, 0)) := by
  simp [World.setCell, Array.getElem?_modify, h]
theorem ix_step (l : List UInt8) (m : Nat) (h : m < l.length) : ixL (l.drop m) = if (l[m].toNat : Int) = 45 then 0 else ixL (l.drop (m + 1)) + 1 := by
  rw [List.drop_eq_getElem_cons h, ixL]
theorem first_oct (s : ByteArray) (h : 0 < s.size) : s.data.toList = s[0] :: s.data.toList.drop 1 := bytes_cons s h

end Go.Proofs.Ytopcbmmnjmmoiaa
