/- Boxes of edges that a region makes, and fills, in whatever order. -/
import Derived.Test.YtfkbpkjejnpaiaaEdgN
import Derived.Shelf.Abstract
namespace Go.Proofs.Ytfkbpkjejnpaiaa
open Go.RowKit
set_option maxRecDepth 100000

/-- A box of three cells. -/
def cell3P (N : Nat) (x y z : Value) : World → Value → Option Nat → Prop := fun w v ob => ∃ b, v = .pointer (some ⟨b, 0, none⟩) ∧ ob = some b ∧ N ≤ b ∧ w.heap[b]? = some (.cells #[x, y, z] 43 (0, 0))
theorem cell3P_near {N : Nat} {x y z : Value} : ∀ (w w' : World) (v : Value) (ob : Option Nat), (∀ b, ob = some b → w'.heap[b]? = w.heap[b]?) → cell3P N x y z w v ob → cell3P N x y z w' v ob := by
  rintro w w' v ob hb ⟨b, rfl, rfl, hN, h⟩
  exact ⟨b, rfl, rfl, hN, (hb b rfl).trans h⟩
theorem row3_set {w : World} {g : Nat} {x0 x1 x2 : Value} {t : TypeId} (h : w.heap[g]? = some (.cells #[x0, x1, x2] t (0, 0))) (y0 y1 y2 : Value) :
    (((w.setCell ⟨g, 0, none⟩ y0).setCell ⟨g, 1, none⟩ y1).setCell ⟨g, 2, none⟩ y2).heap[g]? = some (.cells #[y0, y1, y2] t (0, 0)) := by
  simp [World.setCell, Array.getElem?_modify, h]
theorem ex_alloc {P : Program} {o : Oper} {a : Act} {w : World} {t : TypeId} (hop : o.op = .alloc t) {v : Value} {w' : World} (hr : Sem.run P (Instr.alloc t true (.tuple #[])) w = .ok v w') : Sem.run P (execOp a.eval o) w = .ok (.value v) w' := by
  simp only [execOp, hop]
  simp [hr]
theorem ex_conv {P : Program} {o : Oper} {a : Act} {w : World} {s t : TypeId} {x : Operand} {vx v : Value} (hop : o.op = .convert s t x) (hx : a.eval x = vx) (hr : Sem.run P (Go.convert s t vx) w = .ok v w) : Sem.run P (execOp a.eval o) w = .ok (.value v) w := by
  simp only [execOp, hop, hx]
  simp [hr]
theorem idx_ed {w : World} {b off n c k : Nat} (h : k < n) : (Instr.indexAt 22 (.slice (some ⟨b, off, none⟩) n c) (.int .i64 (k : Int))).run Try.prog w = .ok (.pointer (some ⟨b, off + k * 3, none⟩)) w := by
  have h1 : (0 : Int) ≤ (k : Int) := by omega
  have h3 : (k : Int) < (n : Int) := by omega
  go_simp
theorem ld_ed {w : World} {g i : Nat} {x y z : Value} (h0 : w.cell? ⟨g, i, none⟩ = some x) (h1 : w.cell? ⟨g, i + 1, none⟩ = some y) (h2 : w.cell? ⟨g, i + 2, none⟩ = some z) : Sem.run Try.prog (Instr.loadAt 43 (.pointer (some ⟨g, i, none⟩))) w = .ok (.agg #[x, y, z]) w := by
  go_simp
theorem store_ed (g : Nat) (x y z : Value) (x' y' z' : Int) (w : World) (h : w.heap[g]? = some (.cells #[x, y, z] 43 (0, 0))) : Sem.run Try.prog (Instr.storeAt 43 (.pointer (some ⟨g, 0, none⟩)) (.agg #[.int .i64 x', .int .i64 y', .int .i64 z'])) w = .ok () (((w.setCell ⟨g, 0, none⟩ (.int .i64 x')).setCell ⟨g, 1, none⟩ (.int .i64 y')).setCell ⟨g, 2, none⟩ (.int .i64 z')) := by
  obtain ⟨c0, c1, c2, f0, f1, f2⟩ := row3 h
  go_simp
section
variable {ops : Array Oper} {Q : Exit → Act → World → Prop} {a : Act} {w w0 : World} {who : Nat → Nat} {i B r ro : Nat} {o : Oper}
/-- 'var x Edge'. -/
theorem rol_alloc_ed (ho : ops[i]? = some o) (hw : Region.wanted o (yielded ops a.tmps) = true) {s : Nat} (hd : o.dst = some s) (hs : s < a.tmps.size) (hop : o.op = .alloc 43) {N : Nat} (hb : Below B w0 w) (hB : B ≤ N) (hN : N ≤ w.heap.size) :
    wpOp Try.prog ops Q i (RPost ops i r r (.mem s (cell3P N (.int .i64 0) (.int .i64 0) (.int .i64 0))) B w0 a w who) a w :=
  rol_new ho hw hd hs (x := .cells #[.int .i64 0, .int .i64 0, .int .i64 0] 43) (v := .pointer (some ⟨w.heap.size, 0, none⟩)) (ex_alloc hop (by go_simp)) ⟨w.heap.size, rfl, rfl, hN, heap_alloc_new _ _⟩ hb (Nat.le_trans hB hN)
/-- Into that box goes a known value. -/
theorem rol_fill_ed (ho : ops[i]? = some o) (hw : Region.wanted o (yielded ops a.tmps) = true) (hd : o.dst = none) {s : Nat} {x : Operand} (hop : o.op = .store 43 (.tmp s) x) {N : Nat} {u0 u1 u2 : Value} (h : (RLeaf.mem s (cell3P N u0 u1 u2)).holds r a w who) {y0 y1 y2 : Int} (hx : a.eval x = .agg #[.int .i64 y0, .int .i64 y1, .int .i64 y2])
    (hb : Below B w0 w) (hB : B ≤ N) : wpOp Try.prog ops Q i (RPost ops i r r (.mem s (cell3P N (.int .i64 y0) (.int .i64 y1) (.int .i64 y2))) B w0 a w who) a w := by
  obtain ⟨v, ob, hv, hob, b, rfl, rfl, hN, hh⟩ := h
  obtain ⟨hlt, hwho⟩ := hob b rfl
  refine rol_wp ho hw ?_
  have hr : Sem.run Try.prog (execOp a.eval o) w = .ok .skip (((w.setCell ⟨b, 0, none⟩ (.int .i64 y0)).setCell ⟨b, 1, none⟩ (.int .i64 y1)).setCell ⟨b, 2, none⟩ (.int .i64 y2)) := ex_store hop (eval_slot hv) hx (store_ed b u0 u1 u2 y0 y1 y2 w hh)
  unfold Oper.wp
  rw [hr, Oper.upon_skip, hd]
  have hBb := Nat.le_trans hB hN
  refine ⟨⟨undef, by rw [dst_of ho, hd]⟩, ((hb.setCell (p := ⟨b, 0, none⟩) hBb _).setCell (p := ⟨b, 1, none⟩) hBb _).setCell (p := ⟨b, 2, none⟩) hBb _, who, ⟨fun k _ hk2 => ?_, fun _ _ => rfl, by simp [World.setCell]⟩, _, some b, hv, fun k e => ?_, b, rfl, rfl, hN, row3_set hh _ _ _⟩
  · have hne : k ≠ b := fun e => hk2 (by rw [e]; exact hwho)
    exact ((Below.heap_setCell _ ⟨b, 2, none⟩ _ k hne).trans (Below.heap_setCell _ ⟨b, 1, none⟩ _ k hne)).trans (Below.heap_setCell _ ⟨b, 0, none⟩ _ k hne)
  · cases e
    exact ⟨by simp [World.setCell]; exact hlt, hwho⟩
end

/-! ### Rows of edges of the call's own, and numbers of 16 bits, in a region that draws -/
def rowPE (N n : Nat) (K : List Ed) : World → Value → Option Nat → Prop := fun w v ob => w.ownsRow N 43 3 v n (edC K) ∧ ob = v.ownBlock
theorem rowPE_near {N n : Nat} {K : List Ed} : ∀ (w w' : World) (v : Value) (ob : Option Nat), (∀ b, ob = some b → w'.heap[b]? = w.heap[b]?) → rowPE N n K w v ob → rowPE N n K w' v ob := by
  rintro w w' v ob hb ⟨⟨h1, h2⟩, rfl⟩
  refine ⟨⟨h1, h2.imp id ?_⟩, rfl⟩
  rintro ⟨g, cap, cur, rfl, hg, hh, h3⟩
  exact ⟨g, cap, cur, rfl, hg, (hb g rfl).trans hh, h3⟩
/-- Two results, the first one a row of the call's own. -/
def tupPE (N n : Nat) (K : List Ed) (e : Value) : World → Value → Option Nat → Prop := fun w v ob => ∃ u, v = .tuple #[u, e] ∧ rowPE N n K w u ob
theorem tupPE_near {N n : Nat} {K : List Ed} {e : Value} : ∀ (w w' : World) (v : Value) (ob : Option Nat), (∀ b, ob = some b → w'.heap[b]? = w.heap[b]?) → tupPE N n K e w v ob → tupPE N n K e w' v ob := by
  rintro w w' v ob hb ⟨u, rfl, h⟩
  exact ⟨u, rfl, rowPE_near w w' u ob hb h⟩
section
variable {ops : Array Oper} {Q : Exit → Act → World → Prop} {a : Act} {w w0 : World} {who : Nat → Nat} {i B r ro : Nat} {o : Oper}
/-- The first of two results, a row. -/
theorem rol_ext_rowE (ho : ops[i]? = some o) (hw : Region.wanted o (yielded ops a.tmps) = true) {s : Nat} (hd : o.dst = some s) (hs : s < a.tmps.size) {t : Nat} (hop : o.op = .extract (.tmp t) 0) {N n : Nat} {K : List Ed} {e : Value} (h : (RLeaf.mem t (tupPE N n K e)).holds r a w who) (hb : Below B w0 w) :
    wpOp Try.prog ops Q i (RPost ops i r ro (.mem s (rowPE N n K)) B w0 a w who) a w := by
  obtain ⟨v, ob, hv, hob, u, rfl, hrow⟩ := h
  refine rol_wp ho hw ?_
  have hr : Sem.run Try.prog (execOp a.eval o) w = .ok (.value u) w := ex_extract hop (eval_slot hv) rfl
  unfold Oper.wp
  rw [hr, Oper.upon_value, hd]
  exact ⟨⟨_, by rw [dst_of ho, hd]⟩, hb, who, RKeep.same _ _ _, u, ob, put_self _ hs, hob, hrow⟩
/-- The second one, a value. -/
theorem rol_ext_valE (ho : ops[i]? = some o) (hw : Region.wanted o (yielded ops a.tmps) = true) {s : Nat} (hd : o.dst = some s) (hs : s < a.tmps.size) {t : Nat} (hop : o.op = .extract (.tmp t) 1) {N n : Nat} {K : List Ed} {e : Value} {r2 : Nat} (h : (RLeaf.mem t (tupPE N n K e)).holds r2 a w who) (hb : Below B w0 w) :
    wpOp Try.prog ops Q i (RPost ops i r ro (.val s e) B w0 a w who) a w := by
  obtain ⟨v, ob, hv, hob, u, rfl, hrow⟩ := h
  exact rol_val ho hw hd hs (ex_extract hop (eval_slot hv) rfl) hb
end
theorem shr_u16 (z s : Int) (h : z / 256 = s) (w : World) : Sem.run Try.prog (binOp .shr 48 (.int .u16 z) (.int .u64 8)) w = .ok (.int .u16 s) w := by
  subst h
  go_simp
theorem rem_u16 (z r : Int) (h0 : 0 ≤ z) (_ : z ≤ 65535) (h : z % 8 = r) (w : World) : Sem.run Try.prog (binOp .rem 48 (.int .u16 z) (.int .u16 8)) w = .ok (.int .u16 r) w := by
  subst h
  go_simp
  exact Int.tmod_eq_emod_of_nonneg h0
theorem conv_u16 (z : Int) (h0 : 0 ≤ z) (h1 : z ≤ 65535) (w : World) : Sem.run Try.prog (Go.convert 48 3 (.int .u16 z)) w = .ok (.int .i64 z) w := by
  go_simp
  rw [IntKind.wrap_i64]; omega
theorem sub_one (z f : Int) (h0 : 0 ≤ z) (h1 : z ≤ 65535) (h : z - 1 = f) (w : World) : Sem.run Try.prog (binOp .sub 3 (.int .i64 z) (.int .i64 1)) w = .ok (.int .i64 f) w := by
  subst h
  go_simp
  rw [IntKind.wrap_i64]; omega
theorem sub_nat (x y z : Nat) (h : y ≤ x) (hx : x ≤ 1000) (hz : x - y = z) (w : World) : Sem.run Try.prog (binOp .sub 3 (.int .i64 (x : Int)) (.int .i64 (y : Int))) w = .ok (.int .i64 (z : Int)) w := by
  have e : (x : Int) - (y : Int) = (z : Int) := by omega
  go_simp
  rw [IntKind.wrap_i64]; omega
theorem sub_nat1 (x z : Nat) (h : 1 ≤ x) (hx : x ≤ 1000) (hz : x - 1 = z) (w : World) : Sem.run Try.prog (binOp .sub 3 (.int .i64 (x : Int)) (.int .i64 1)) w = .ok (.int .i64 (z : Int)) w := by
  have e : (x : Int) - 1 = (z : Int) := by omega
  go_simp
  rw [IntKind.wrap_i64]; omega
theorem idx_u16 {w : World} {b off n c k : Nat} (h : k < n) : (Instr.indexAt 47 (.slice (some ⟨b, off, none⟩) n c) (.int .i64 (k : Int))).run Try.prog w = .ok (.pointer (some ⟨b, off + k, none⟩)) w := by
  have h1 : (0 : Int) ≤ (k : Int) := by omega
  have h3 : (k : Int) < (n : Int) := by omega
  go_simp
theorem ld_u16 {w : World} {g i : Nat} {z : Int} (h : w.cell? ⟨g, i, none⟩ = some (.int .u16 z)) : Sem.run Try.prog (Instr.loadAt 48 (.pointer (some ⟨g, i, none⟩))) w = .ok (.int .u16 z) w := by
  go_simp
end Go.Proofs.Ytfkbpkjejnpaiaa
