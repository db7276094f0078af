/- Three results of a call, the first one a graph, and a box that a region makes of it: where operations come in any order. -/
import Derived.Test.YtfkbpkjejnpaiaaReaW
namespace Go.Proofs.Ytfkbpkjejnpaiaa
open Go.RowKit
set_option linter.unusedVariables false
set_option maxRecDepth 100000

def tup3R (N : Nat) (K : List Ed) (T D : List Int) (e : Value) : World → Value → (Nat → Prop) → Prop := fun w v bs => ∃ u z, v = .tuple #[u, z, e] ∧ graR N K T w u bs ∧ w.ownsRow N 3 1 z D.length (intZ D) ∧ ∀ b, z.ownBlock = some b → bs b
theorem tup3R_near {N : Nat} {K : List Ed} {T D : List Int} {e : Value} : ∀ (w w' : World) (v : Value) (bs : Nat → Prop), (∀ b, bs b → w'.heap[b]? = w.heap[b]?) → tup3R N K T D e w v bs → tup3R N K T D e w' v bs := by
  rintro w w' v bs hb ⟨u, z, rfl, h, h2, h3⟩
  exact ⟨u, z, rfl, graR_near w w' u bs hb h, row_heapR h2 fun b e => hb b (h3 b e), h3⟩
theorem to_tup3 {w : World} {N N' : Nat} {v z e : Value} {K : List Ed} {T D : List Int} (h : GraO w N v K T) (h2 : w.ownsRow N 3 1 z D.length (intZ D)) (hn : N' ≤ N) : ∃ bs : Nat → Prop, (∀ b, bs b → N ≤ b ∧ b < w.heap.size) ∧ tup3R N' K T D e w (.tuple #[v, z, e]) bs := by
  obtain ⟨bs, h3, x, y, rfl, h4, h5, h6, h7⟩ := h.toG hn
  refine ⟨fun b => bs b ∨ z.ownBlock = some b, fun b hb => ?_, _, z, rfl, ⟨x, y, rfl, h4, h5, fun b e => .inl (h6 b e), fun b e => .inl (h7 b e)⟩, row_base h2 hn, fun b e => .inr e⟩
  rcases hb with hb | hb
  · exact h3 b hb
  · exact h2.lt b hb
def cell2R (N : Nat) (t : TypeId) (x y : Value) : World → Value → Option Nat → Prop := fun w v ob => ∃ b, v = .pointer (some ⟨b, 0, none⟩) ∧ ob = some b ∧ N ≤ b ∧ w.heap[b]? = some (.cells #[x, y] t (0, 0))
theorem cell2R_near {N : Nat} {t : TypeId} {x y : Value} : ∀ (w w' : World) (v : Value) (ob : Option Nat), (∀ b, ob = some b → w'.heap[b]? = w.heap[b]?) → cell2R N t x y w v ob → cell2R N t x y w' v ob := by
  rintro w w' v ob hb ⟨b, rfl, rfl, hN, h⟩
  exact ⟨b, rfl, rfl, hN, (hb b rfl).trans h⟩
def tie2R (N : Nat) (t : TypeId) : World → Value → Value → Option Nat → Prop := fun w v u ob => ∃ b x y, v = .pointer (some ⟨b, 0, none⟩) ∧ ob = some b ∧ u = .agg #[x, y] ∧ N ≤ b ∧ w.heap[b]? = some (.cells #[x, y] t (0, 0))
theorem tie2R_near {N : Nat} {t : TypeId} : ∀ (w w' : World) (v u : Value) (ob : Option Nat), (∀ b, ob = some b → w'.heap[b]? = w.heap[b]?) → tie2R N t w v u ob → tie2R N t w' v u ob := by
  rintro w w' v u ob hb ⟨b, x, y, rfl, rfl, rfl, hN, h⟩
  exact ⟨b, x, y, rfl, rfl, rfl, hN, (hb b rfl).trans h⟩
section
variable {ops : Array Oper} {Q : Exit → Act → World → Prop} {a : Act} {w w0 : World} {who : Nat → Nat} {i B r ro : Nat} {o : Oper}
theorem rol_ext_gra3 (ho : ops[i]? = some o) (hw : Region.wanted o (yielded ops a.tmps) = true) {s : Nat} (hd : o.dst = some s) (hs : s < a.tmps.size) {t : Nat} (hop : o.op = .extract (.tmp t) 0) {N : Nat} {K : List Ed} {T D : List Int} {e : Value} (h : (RLeaf.mems t (tup3R N K T D e)).holds r a w who) (hb : Below B w0 w) :
    wpOp Try.prog ops Q i (RPost ops i r ro (.mems s (graR N K T)) B w0 a w who) a w := by
  obtain ⟨v, bs, hv, hbs, u, z, rfl, hp, -⟩ := h
  exact rol_vals ho hw hd hs (ex_extract hop (eval_slot hv) rfl) hbs hp hb
theorem rol_ext_row3 (ho : ops[i]? = some o) (hw : Region.wanted o (yielded ops a.tmps) = true) {s : Nat} (hd : o.dst = some s) (hs : s < a.tmps.size) {t : Nat} (hop : o.op = .extract (.tmp t) 1) {N : Nat} {K : List Ed} {T D : List Int} {e : Value} (h : (RLeaf.mems t (tup3R N K T D e)).holds r a w who) (hb : Below B w0 w) :
    wpOp Try.prog ops Q i (RPost ops i r ro (.mem s (rowR N 3 1 D.length (intZ D))) B w0 a w who) a w := by
  obtain ⟨v, bs, hv, hbs, u, z, rfl, hp, h2, h3⟩ := h
  refine rol_wp ho hw ?_
  have hr : Sem.run Try.prog (execOp a.eval o) w = .ok (.value z) w := ex_extract hop (eval_slot hv) rfl
  unfold Oper.wp
  rw [hr, Oper.upon_value, hd]
  exact ⟨⟨_, by rw [dst_of ho, hd]⟩, hb, who, RKeep.same _ _ _, z, z.ownBlock, put_self _ hs, fun b e => hbs b (h3 b e), h2, rfl⟩
theorem rol_ext_err3 (ho : ops[i]? = some o) (hw : Region.wanted o (yielded ops a.tmps) = true) {s : Nat} (hd : o.dst = some s) (hs : s < a.tmps.size) {t : Nat} (hop : o.op = .extract (.tmp t) 2) {N : Nat} {K : List Ed} {T D : List Int} {e : Value} {r2 : Nat} (h : (RLeaf.mems t (tup3R N K T D e)).holds r2 a w who) (hb : Below B w0 w) :
    wpOp Try.prog ops Q i (RPost ops i r ro (.val s e) B w0 a w who) a w := by
  obtain ⟨v, bs, hv, hbs, u, z, rfl, -, -, -⟩ := h
  exact rol_val ho hw hd hs (ex_extract hop (eval_slot hv) rfl) hb
theorem rol_alloc_gra (ho : ops[i]? = some o) (hw : Region.wanted o (yielded ops a.tmps) = true) {s : Nat} (hd : o.dst = some s) (hs : s < a.tmps.size) (hop : o.op = .alloc 25) {N : Nat} (hb : Below B w0 w) (hB : B ≤ N) (hN : N ≤ w.heap.size) :
    wpOp Try.prog ops Q i (RPost ops i r ro (.mem s (cell2R N 25 (.slice none 0 0) (.slice none 0 0))) B w0 a w who) a w :=
  rol_newO ho hw hd hs (x := .cells #[.slice none 0 0, .slice none 0 0] 25) (v := .pointer (some ⟨w.heap.size, 0, none⟩)) (ex_alloc hop (by go_simp)) ⟨w.heap.size, rfl, rfl, hN, heap_alloc_new _ _⟩ hb (Nat.le_trans hB hN)
theorem rol_fill_gra (ho : ops[i]? = some o) (hw : Region.wanted o (yielded ops a.tmps) = true) (hd : o.dst = none) {s t : Nat} (hop : o.op = .store 25 (.tmp s) (.tmp t)) {N : Nat} {x0 y0 : Value} {ty : TypeId} (h : (RLeaf.mem s (cell2R N ty x0 y0)).holds r a w who) {N2 : Nat} {K : List Ed} {T : List Int} {r2 : Nat} (h2 : (RLeaf.mems t (graR N2 K T)).holds r2 a w who)
    (hb : Below B w0 w) (hB : B ≤ N) : wpOp Try.prog ops Q i (RPost ops i r r (.mem2 s t (tie2R N ty)) B w0 a w who) a w := by
  obtain ⟨v, ob, hv, hob, b, rfl, rfl, hN, hh⟩ := h
  obtain ⟨u, bs, hu, -, hp⟩ := h2
  obtain ⟨A, c, A', d, rfl, -, -⟩ := hp.own.forms
  obtain ⟨hlt, hwho⟩ := hob b rfl
  refine rol_wp ho hw ?_
  have hr := ex_store (a := a) hop (eval_slot hv) (eval_slot hu) (store_gra hh)
  unfold Oper.wp
  rw [hr, Oper.upon_skip, hd]
  refine ⟨⟨undef, by rw [dst_of ho, hd]⟩, (hb.setCell (Nat.le_trans hB hN) _).setCell (Nat.le_trans hB hN) _, who, ⟨fun k _ hk2 => ?_, fun _ _ => rfl, by simp [World.setCell]⟩, _, _, some b, hv, hu, fun k e => ?_, b, _, _, rfl, rfl, rfl, hN, row2_set hh _ _⟩
  · have hne : k ≠ b := fun e => hk2 (by rw [e]; exact hwho)
    rw [Below.heap_setCell _ ⟨b, 1, none⟩ _ k hne, Below.heap_setCell _ ⟨b, 0, none⟩ _ k hne]
  · cases e
    exact ⟨by simp [World.setCell]; exact hlt, hwho⟩
end
/-! ### Octets as numbers -/
theorem cast_modR (a : Int) (n : Nat) (h : 0 ≤ a) : a.tmod (n : Int) = ((a.toNat % n : Nat) : Int) := by
  rw [Int.tmod_eq_emod_of_nonneg h, Int.natCast_emod, Int.toNat_of_nonneg h]
theorem conv_u8R (z : Int) (h0 : 0 ≤ z) (h1 : z ≤ 255) (w : World) : Sem.run Try.prog (Go.convert 5 3 (.int .u8 z)) w = .ok (.int .i64 z) w := by
  go_simp
  rw [IntKind.wrap_i64]; omega
theorem rem_intR (a : Int) (n i : Nat) (hn : 0 < n) (hi : i < n) (hb : n ≤ 1000) (h : a.tmod (n : Int) = (i : Int)) (w : World) : Sem.run Try.prog (binOp .rem 3 (.int .i64 a) (.int .i64 (n : Int))) w = .ok (.int .i64 (i : Int)) w := by
  have hz : ¬ n = 0 := by omega
  go_simp
end Go.Proofs.Ytfkbpkjejnpaiaa
