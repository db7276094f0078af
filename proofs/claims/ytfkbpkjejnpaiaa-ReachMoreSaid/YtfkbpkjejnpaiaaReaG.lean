/- What operations of a region leave in several blocks: rows, and structs of two rows. -/
import Derived.Test.YtfkbpkjejnpaiaaReaF
import Derived.Test.YtfkbpkjejnpaiaaEdgP
namespace Go.Proofs.Ytfkbpkjejnpaiaa
open Go.RowKit
set_option linter.unusedVariables false
set_option maxRecDepth 100000

/-- A row of the call's own, among the blocks from N on. -/
def rowR (N : Nat) (e : TypeId) (size n : Nat) (xs : List Value) : World → Value → Option Nat → Prop := fun w v ob => w.ownsRow N e size v n xs ∧ ob = v.ownBlock
theorem row_heapR {w w' : World} {base : Nat} {e : TypeId} {size : Nat} {v : Value} {n : Nat} {xs : List Value} (h : w.ownsRow base e size v n xs) (hb : ∀ b, v.ownBlock = some b → w'.heap[b]? = w.heap[b]?) : w'.ownsRow base e size v n xs := by
  obtain ⟨h1, h2⟩ := h
  refine ⟨h1, h2.imp id ?_⟩
  rintro ⟨g, cap, cur, rfl, hg, hh, h3⟩
  exact ⟨g, cap, cur, rfl, hg, (hb g rfl).trans hh, h3⟩
theorem rowR_near {N : Nat} {e : TypeId} {size n : Nat} {xs : List Value} : ∀ (w w' : World) (v : Value) (ob : Option Nat), (∀ b, ob = some b → w'.heap[b]? = w.heap[b]?) → rowR N e size n xs w v ob → rowR N e size n xs w' v ob := by
  rintro w w' v ob hb ⟨h, rfl⟩
  exact ⟨row_heapR h hb, rfl⟩
/-- A slice of a whole block of its own. -/
def blkR (t : TypeId) (cs : Array Value) (k : Nat) : World → Value → Option Nat → Prop := fun w u ob => ∃ b, u = .slice (some ⟨b, 0, none⟩) k k ∧ ob = some b ∧ w.heap[b]? = some (.cells cs t (0, 0))
theorem blkR_near {t : TypeId} {cs : Array Value} {k : Nat} : ∀ (w w' : World) (u : Value) (ob : Option Nat), (∀ b, ob = some b → w'.heap[b]? = w.heap[b]?) → blkR t cs k w u ob → blkR t cs k w' u ob := by
  rintro w w' u ob hb ⟨b, rfl, rfl, h⟩
  exact ⟨b, rfl, rfl, (hb b rfl).trans h⟩
/-- Two rows of the call's own, as a struct. -/
def graR (N : Nat) (K : List Ed) (T : List Int) : World → Value → (Nat → Prop) → Prop := fun w v bs => ∃ x y, v = .agg #[x, y] ∧ w.ownsRow N 43 3 x K.length (edC K) ∧ w.ownsRow N 3 1 y T.length (intZ T) ∧ (∀ b, x.ownBlock = some b → bs b) ∧ ∀ b, y.ownBlock = some b → bs b
theorem graR_near {N : Nat} {K : List Ed} {T : List Int} : ∀ (w w' : World) (v : Value) (bs : Nat → Prop), (∀ b, bs b → w'.heap[b]? = w.heap[b]?) → graR N K T w v bs → graR N K T w' v bs := by
  rintro w w' v bs hb ⟨x, y, rfl, h1, h2, h3, h4⟩
  exact ⟨x, y, rfl, row_heapR h1 fun b e => hb b (h3 b e), row_heapR h2 fun b e => hb b (h4 b e), h3, h4⟩
/-- The same, with a value beside it. -/
def tupR (N : Nat) (K : List Ed) (T : List Int) (e : Value) : World → Value → (Nat → Prop) → Prop := fun w v bs => ∃ u, v = .tuple #[u, e] ∧ graR N K T w u bs
theorem tupR_near {N : Nat} {K : List Ed} {T : List Int} {e : Value} : ∀ (w w' : World) (v : Value) (bs : Nat → Prop), (∀ b, bs b → w'.heap[b]? = w.heap[b]?) → tupR N K T e w v bs → tupR N K T e w' v bs := by
  rintro w w' v bs hb ⟨u, rfl, h⟩
  exact ⟨u, rfl, graR_near w w' u bs hb h⟩
/-- A box of two cells holds what stands in a slot. -/
def boxR (g : Nat) (t : TypeId) : World → Value → Option Nat → Prop := fun w v ob => ob = some g ∧ ∃ x y, v = .agg #[x, y] ∧ w.heap[g]? = some (.cells #[x, y] t (0, 0))
theorem boxR_near {g : Nat} {t : TypeId} : ∀ (w w' : World) (v : Value) (ob : Option Nat), (∀ b, ob = some b → w'.heap[b]? = w.heap[b]?) → boxR g t w v ob → boxR g t w' v ob := by
  rintro w w' v ob hb ⟨rfl, x, y, rfl, h⟩
  exact ⟨rfl, x, y, rfl, (hb g rfl).trans h⟩

/-- A store of the call's own: two rows, among the blocks from N on. -/
def GraO (w : World) (N : Nat) (v : Value) (K : List Ed) (T : List Int) : Prop := ∃ x y, v = .agg #[x, y] ∧ w.ownsRow N 43 3 x K.length (edC K) ∧ w.ownsRow N 3 1 y T.length (intZ T)
theorem GraO.below {w w' : World} {N : Nat} {v : Value} {K : List Ed} {T : List Int} (h : GraO w N v K T) (hb : Below w.heap.size w w') : GraO w' N v K T := by
  obtain ⟨x, y, rfl, h1, h2⟩ := h
  exact ⟨x, y, rfl, ownsRow_belowB h1 hb, ownsRow_belowB h2 hb⟩
theorem GraO.base {w : World} {N N' : Nat} {v : Value} {K : List Ed} {T : List Int} (h : GraO w N v K T) (hn : N' ≤ N) : GraO w N' v K T := by
  obtain ⟨x, y, rfl, h1, h2⟩ := h
  exact ⟨x, y, rfl, row_base h1 hn, row_base h2 hn⟩
theorem GraO.forms {w : World} {N : Nat} {v : Value} {K : List Ed} {T : List Int} (h : GraO w N v K T) : ∃ a c b d, v = .agg #[.slice a K.length c, .slice b T.length d] ∧ Eds w (.slice a K.length c) K ∧ Ints w (.slice b T.length d) T := by
  obtain ⟨x, y, rfl, h1, h2⟩ := h
  obtain ⟨a, c, rfl, n1⟩ := edsO h1
  obtain ⟨b, d, rfl, n2⟩ := intsZ h2
  exact ⟨a, c, b, d, rfl, n1, n2⟩
theorem graR.own {N : Nat} {K : List Ed} {T : List Int} {w : World} {v : Value} {bs : Nat → Prop} (h : graR N K T w v bs) : GraO w N v K T := by
  obtain ⟨x, y, rfl, h1, h2, _⟩ := h
  exact ⟨x, y, rfl, h1, h2⟩
/-- What a call answers, as a region wants it: its blocks are new. -/
theorem GraO.toG {w : World} {N N' : Nat} {v : Value} {K : List Ed} {T : List Int} (h : GraO w N v K T) (hn : N' ≤ N) : ∃ bs : Nat → Prop, (∀ b, bs b → N ≤ b ∧ b < w.heap.size) ∧ graR N' K T w v bs := by
  obtain ⟨x, y, rfl, h1, h2⟩ := h
  refine ⟨fun b => x.ownBlock = some b ∨ y.ownBlock = some b, fun b e => ?_, x, y, rfl, row_base h1 hn, row_base h2 hn, fun b e => .inl e, fun b e => .inr e⟩
  rcases e with e | e
  · exact h1.lt b e
  · exact h2.lt b e

section
variable {P : Program} {ops : Array Oper} {Q : Exit → Act → World → Prop} {a : Act} {w w0 : World} {who : Nat → Nat} {i B r ro : Nat} {o : Oper}
theorem rol_movesR (ho : ops[i]? = some o) (hw : Region.wanted o (yielded ops a.tmps) = true) {s t : Nat} (hd : o.dst = some s) (hs : s < a.tmps.size) (hop : o.op = .move (.tmp t) ∨ o.op = .assign (.tmp t)) {p : World → Value → (Nat → Prop) → Prop}
    (h : (RLeaf.mems t p).holds r a w who) (hb : Below B w0 w) : wpOp P ops Q i (RPost ops i r ro (.mems s p) B w0 a w who) a w := by
  obtain ⟨v, bs, hv, hbs, hp⟩ := h
  exact rol_vals ho hw hd hs (ex_move (x := .tmp t) hop (eval_slot hv)) hbs hp hb
/-- Two values, held by two slots, the blocks of one role, are put into a box of two cells. -/
theorem rol_putboxR (ho : ops[i]? = some o) (hw : Region.wanted o (yielded ops a.tmps) = true) (hd : o.dst = none) {g t : Nat} {v : Value} (hv : a.tmps[t]? = some v) {x y x0 y0 : Value} {ty : TypeId} (hx : v = .agg #[x, y]) (hg : w.heap[g]? = some (.cells #[x0, y0] ty (0, 0)) ∧ who g = r) (hBg : B ≤ g)
    (hr : Sem.run P (execOp a.eval o) w = .ok .skip ((w.setCell ⟨g, 0, none⟩ x).setCell ⟨g, 1, none⟩ y)) (hb : Below B w0 w) : wpOp P ops Q i (RPost ops i r r (.mem t (boxR g ty)) B w0 a w who) a w := by
  subst hx
  refine rol_wp ho hw ?_
  unfold Oper.wp
  rw [hr, Oper.upon_skip, hd]
  have hlt : g < w.heap.size := (Array.getElem?_eq_some_iff.1 hg.1).1
  refine ⟨⟨undef, by rw [dst_of ho, hd]⟩, (hb.setCell hBg _).setCell hBg _, who, ⟨fun k _ hk2 => ?_, fun _ _ => rfl, by simp [World.setCell]⟩, _, some g, hv, fun b e => ?_, rfl, _, _, rfl, row2_set hg.1 _ _⟩
  · have hne : k ≠ g := fun e => hk2 (by rw [e]; exact hg.2)
    rw [Below.heap_setCell _ ⟨g, 1, none⟩ _ k hne, Below.heap_setCell _ ⟨g, 0, none⟩ _ k hne]
  · cases e
    exact ⟨by simp [World.setCell]; exact hlt, hg.2⟩
end
theorem store_gra {w : World} {g : Nat} {A B : Option Addr} {n c m d : Nat} {x0 y0 : Value} {t : TypeId} (h : w.heap[g]? = some (.cells #[x0, y0] t (0, 0))) : Sem.run Try.prog (Instr.storeAt 25 (.pointer (some ⟨g, 0, none⟩)) (.agg #[.slice A n c, .slice B m d])) w = .ok () ((w.setCell ⟨g, 0, none⟩ (.slice A n c)).setCell ⟨g, 1, none⟩ (.slice B m d)) := by
  obtain ⟨d0, d1, f0, f1⟩ := row2 h
  go_simp
theorem build_gra {w : World} {A B : Option Addr} {n c m d : Nat} : Sem.run Try.prog (Instr.build 25 #[(0, .slice A n c), (1, .slice B m d)]) w = .ok (.agg #[.slice A n c, .slice B m d]) w := by go_simp
section
variable {ops : Array Oper} {Q : Exit → Act → World → Prop} {a : Act} {w w0 : World} {who : Nat → Nat} {i B r ro : Nat} {o : Oper}
/-- 'T{k, t}' out of two rows. -/
theorem rol_aggR (ho : ops[i]? = some o) (hw : Region.wanted o (yielded ops a.tmps) = true) {s : Nat} (hd : o.dst = some s) (hs : s < a.tmps.size) {p q : Nat} (hop : o.op = .build 25 #[(0, .tmp p), (1, .tmp q)]) {N n m : Nat} {K : List Ed} {T : List Int} (hn : n = K.length) (hm : m = T.length)
    (h1 : (RLeaf.mem p (rowR N 43 3 n (edC K))).holds r a w who) (h2 : (RLeaf.mem q (rowR N 3 1 m (intZ T))).holds r a w who) (hb : Below B w0 w) : wpOp Try.prog ops Q i (RPost ops i r ro (.mems s (graR N K T)) B w0 a w who) a w := by
  subst hn hm
  obtain ⟨x, ob, hx, hob, hrx, rfl⟩ := h1
  obtain ⟨y, ob', hy, hob', hry, rfl⟩ := h2
  obtain ⟨A, c, rfl, -⟩ := edsO hrx
  obtain ⟨A', d, rfl, -⟩ := intsZ hry
  refine rol_vals ho hw hd hs (ex_build hop (vs := #[(0, .slice A K.length c), (1, .slice A' T.length d)]) (by simp only [List.map_toArray, List.map_cons, List.map_nil, eval_slot hx, eval_slot hy]) build_gra) (bs := fun b => Value.ownBlock (.slice A K.length c) = some b ∨ Value.ownBlock (.slice A' T.length d) = some b) ?_ ⟨_, _, rfl, hrx, hry, fun b e => .inl e, fun b e => .inr e⟩ hb
  rintro b (e | e)
  · exact hob b e
  · exact hob' b e
/-- A store is put into a box. -/
theorem rol_boxR (ho : ops[i]? = some o) (hw : Region.wanted o (yielded ops a.tmps) = true) (hd : o.dst = none) {x : Operand} {t g : Nat} (hop : o.op = .store 25 x (.tmp t)) (hx : a.eval x = .pointer (some ⟨g, 0, none⟩)) {N : Nat} {K : List Ed} {T : List Int} {r2 : Nat} (h : (RLeaf.mems t (graR N K T)).holds r2 a w who)
    {x0 y0 : Value} {ty : TypeId} (hg : (RLeaf.box g (.cells #[x0, y0] ty)).holds r a w who) (hb : Below B w0 w) (hB : B ≤ g) : wpOp Try.prog ops Q i (RPost ops i r r (.mem t (boxR g ty)) B w0 a w who) a w := by
  obtain ⟨v, bs, hv, -, hp⟩ := h
  obtain ⟨A, c, A', d, rfl, -, -⟩ := hp.own.forms
  exact rol_putboxR ho hw hd hv rfl hg hB (ex_store hop hx (eval_slot hv) (store_gra hg.1)) hb
end
end Go.Proofs.Ytfkbpkjejnpaiaa
