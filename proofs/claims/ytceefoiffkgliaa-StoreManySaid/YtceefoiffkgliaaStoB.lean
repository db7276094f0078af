/- What operations of a region leave in several blocks: rows, and structs of two rows. -/
import Derived.Test.YtceefoiffkgliaaStoA
namespace Go.Proofs.Ytceefoiffkgliaa
open Go.RowKit
set_option linter.unusedVariables false
set_option maxRecDepth 100000

/-- A row of the call's own, among the blocks from N on. -/
def rowG (N : Nat) (e : TypeId) (size n : Nat) (xs : List Value) : World → Value → Option Nat → Prop := fun w v ob => w.ownsRow N e size v n xs ∧ ob = v.ownBlock
theorem row_heap {w w' : World} {base : Nat} {e : TypeId} {size : Nat} {v : Value} {n : Nat} {xs : List Value} (h : w.ownsRow base e size v n xs) (hb : ∀ b, v.ownBlock = some b → w'.heap[b]? = w.heap[b]?) : w'.ownsRow base e size v n xs := by
  obtain ⟨h1, h2⟩ := h
  refine ⟨h1, h2.imp id ?_⟩
  rintro ⟨g, cap, cur, rfl, hg, hh, h3⟩
  exact ⟨g, cap, cur, rfl, hg, (hb g rfl).trans hh, h3⟩
theorem rowG_near {N : Nat} {e : TypeId} {size n : Nat} {xs : List Value} : ∀ (w w' : World) (v : Value) (ob : Option Nat), (∀ b, ob = some b → w'.heap[b]? = w.heap[b]?) → rowG N e size n xs w v ob → rowG N e size n xs w' v ob := by
  rintro w w' v ob hb ⟨h, rfl⟩
  exact ⟨row_heap h hb, rfl⟩
/-- A slice of a whole block of its own. -/
def blkG (t : TypeId) (cs : Array Value) (k : Nat) : World → Value → Option Nat → Prop := fun w u ob => ∃ b, u = .slice (some ⟨b, 0, none⟩) k k ∧ ob = some b ∧ w.heap[b]? = some (.cells cs t (0, 0))
theorem blkG_near {t : TypeId} {cs : Array Value} {k : Nat} : ∀ (w w' : World) (u : Value) (ob : Option Nat), (∀ b, ob = some b → w'.heap[b]? = w.heap[b]?) → blkG t cs k w u ob → blkG t cs k w' u ob := by
  rintro w w' u ob hb ⟨b, rfl, rfl, h⟩
  exact ⟨b, rfl, rfl, (hb b rfl).trans h⟩
/-- Two rows of the call's own, as a struct. -/
def stoG (N : Nat) (K : List Nd) (T : List (List UInt8)) : World → Value → (Nat → Prop) → Prop := fun w v bs => ∃ x y, v = .agg #[x, y] ∧ w.ownsRow N 27 2 x K.length (ndsC K) ∧ w.ownsRow N 9 1 y T.length (strC T) ∧ (∀ b, x.ownBlock = some b → bs b) ∧ ∀ b, y.ownBlock = some b → bs b
theorem stoG_near {N : Nat} {K : List Nd} {T : List (List UInt8)} : ∀ (w w' : World) (v : Value) (bs : Nat → Prop), (∀ b, bs b → w'.heap[b]? = w.heap[b]?) → stoG N K T w v bs → stoG N K T w' v bs := by
  rintro w w' v bs hb ⟨x, y, rfl, h1, h2, h3, h4⟩
  exact ⟨x, y, rfl, row_heap h1 fun b e => hb b (h3 b e), row_heap h2 fun b e => hb b (h4 b e), h3, h4⟩
/-- The same, with a value beside it. -/
def tupG (N : Nat) (K : List Nd) (T : List (List UInt8)) (e : Value) : World → Value → (Nat → Prop) → Prop := fun w v bs => ∃ u, v = .tuple #[u, e] ∧ stoG N K T w u bs
theorem tupG_near {N : Nat} {K : List Nd} {T : List (List UInt8)} {e : Value} : ∀ (w w' : World) (v : Value) (bs : Nat → Prop), (∀ b, bs b → w'.heap[b]? = w.heap[b]?) → tupG N K T e w v bs → tupG N K T e w' v bs := by
  rintro w w' v bs hb ⟨u, rfl, h⟩
  exact ⟨u, rfl, stoG_near w w' u bs hb h⟩
/-- A box of two cells holds what stands in a slot. -/
def boxG (g : Nat) (t : TypeId) : World → Value → Option Nat → Prop := fun w v ob => ob = some g ∧ ∃ x y, v = .agg #[x, y] ∧ w.heap[g]? = some (.cells #[x, y] t (0, 0))
theorem boxG_near {g : Nat} {t : TypeId} : ∀ (w w' : World) (v : Value) (ob : Option Nat), (∀ b, ob = some b → w'.heap[b]? = w.heap[b]?) → boxG g t w v ob → boxG g t w' v ob := by
  rintro w w' v ob hb ⟨rfl, x, y, rfl, h⟩
  exact ⟨rfl, x, y, rfl, (hb g rfl).trans h⟩

/-- A store of the call's own: two rows, among the blocks from N on. -/
def StoO (w : World) (N : Nat) (v : Value) (K : List Nd) (T : List (List UInt8)) : Prop := ∃ x y, v = .agg #[x, y] ∧ w.ownsRow N 27 2 x K.length (ndsC K) ∧ w.ownsRow N 9 1 y T.length (strC T)
theorem StoO.below {w w' : World} {N : Nat} {v : Value} {K : List Nd} {T : List (List UInt8)} (h : StoO w N v K T) (hb : Below w.heap.size w w') : StoO w' N v K T := by
  obtain ⟨x, y, rfl, h1, h2⟩ := h
  exact ⟨x, y, rfl, ownsRow_belowB h1 hb, ownsRow_belowB h2 hb⟩
theorem StoO.base {w : World} {N N' : Nat} {v : Value} {K : List Nd} {T : List (List UInt8)} (h : StoO w N v K T) (hn : N' ≤ N) : StoO w N' v K T := by
  obtain ⟨x, y, rfl, h1, h2⟩ := h
  exact ⟨x, y, rfl, row_base h1 hn, row_base h2 hn⟩
theorem StoO.forms {w : World} {N : Nat} {v : Value} {K : List Nd} {T : List (List UInt8)} (h : StoO w N v K T) : ∃ a c b d, v = .agg #[.slice a K.length c, .slice b T.length d] ∧ Nds w (.slice a K.length c) K ∧ Strs w (.slice b T.length d) T := by
  obtain ⟨x, y, rfl, h1, h2⟩ := h
  obtain ⟨a, c, rfl, n1⟩ := ndsO h1
  obtain ⟨b, d, rfl, n2⟩ := stsO h2
  exact ⟨a, c, b, d, rfl, n1, n2⟩
theorem stoG.own {N : Nat} {K : List Nd} {T : List (List UInt8)} {w : World} {v : Value} {bs : Nat → Prop} (h : stoG N K T w v bs) : StoO w N v K T := by
  obtain ⟨x, y, rfl, h1, h2, _⟩ := h
  exact ⟨x, y, rfl, h1, h2⟩
/-- What a call answers, as a region wants it: its blocks are new. -/
theorem StoO.toG {w : World} {N N' : Nat} {v : Value} {K : List Nd} {T : List (List UInt8)} (h : StoO w N v K T) (hn : N' ≤ N) : ∃ bs : Nat → Prop, (∀ b, bs b → N ≤ b ∧ b < w.heap.size) ∧ stoG N' K T w v bs := by
  obtain ⟨x, y, rfl, h1, h2⟩ := h
  refine ⟨fun b => x.ownBlock = some b ∨ y.ownBlock = some b, fun b e => ?_, x, y, rfl, row_base h1 hn, row_base h2 hn, fun b e => .inl e, fun b e => .inr e⟩
  rcases e with e | e
  · exact h1.lt b e
  · exact h2.lt b e

section
variable {P : Program} {ops : Array Oper} {Q : Exit → Act → World → Prop} {a : Act} {w w0 : World} {who : Nat → Nat} {i B r ro : Nat} {o : Oper}
theorem rol_moves (ho : ops[i]? = some o) (hw : Region.wanted o (yielded ops a.tmps) = true) {s t : Nat} (hd : o.dst = some s) (hs : s < a.tmps.size) (hop : o.op = .move (.tmp t) ∨ o.op = .assign (.tmp t)) {p : World → Value → (Nat → Prop) → Prop}
    (h : (RLeaf.mems t p).holds r a w who) (hb : Below B w0 w) : wpOp P ops Q i (RPost ops i r ro (.mems s p) B w0 a w who) a w := by
  obtain ⟨v, bs, hv, hbs, hp⟩ := h
  exact rol_vals ho hw hd hs (ex_move (x := .tmp t) hop (eval_slot hv)) hbs hp hb
theorem ex_back {t : TypeId} {x y : Operand} {vx vy v : Value} (hop : o.op = .slice t x (some y) none none) (hx : a.eval x = vx) (hy : a.eval y = vy) (hr : Sem.run P (Instr.sliceAt t vx (some vy) none none) w = .ok v w) : Sem.run P (execOp a.eval o) w = .ok (.value v) w := by
  simp only [execOp, hop, Option.map, hx, hy]
  simp [hr]
/-- Two values, held by two slots, the blocks of one role, are put into a box of two cells. -/
theorem rol_putbox (ho : ops[i]? = some o) (hw : Region.wanted o (yielded ops a.tmps) = true) (hd : o.dst = none) {g t : Nat} {v : Value} (hv : a.tmps[t]? = some v) {x y x0 y0 : Value} {ty : TypeId} (hx : v = .agg #[x, y]) (hg : w.heap[g]? = some (.cells #[x0, y0] ty (0, 0)) ∧ who g = r) (hBg : B ≤ g)
    (hr : Sem.run P (execOp a.eval o) w = .ok .skip ((w.setCell ⟨g, 0, none⟩ x).setCell ⟨g, 1, none⟩ y)) (hb : Below B w0 w) : wpOp P ops Q i (RPost ops i r r (.mem t (boxG g ty)) B w0 a w who) a w := by
  subst hx
  refine rol_wp ho hw ?_
  unfold Oper.wp
  rw [hr, Oper.upon_skip, hd]
  have hlt : g < w.heap.size := (Array.getElem?_eq_some_iff.1 hg.1).1
  refine ⟨⟨undef, by rw [dst_of ho, hd]⟩, (hb.setCell hBg _).setCell hBg _, who, ⟨fun k _ hk2 => ?_, fun _ _ => rfl, by simp [World.setCell]⟩, _, some g, hv, fun b e => ?_, rfl, _, _, rfl, row2_set hg.1 _ _⟩
  · have hne : k ≠ g := fun e => hk2 (by rw [e]; exact hg.2)
    rw [Below.heap_setCell _ ⟨g, 1, none⟩ _ k hne, Below.heap_setCell _ ⟨g, 0, none⟩ _ k hne]
  · cases e
    exact ⟨by simp [World.setCell]; exact hlt, hg.2⟩
end
theorem store_sto {w : World} {g : Nat} {A B : Option Addr} {n c m d : Nat} {x0 y0 : Value} {t : TypeId} (h : w.heap[g]? = some (.cells #[x0, y0] t (0, 0))) : Sem.run Try.prog (Instr.storeAt 25 (.pointer (some ⟨g, 0, none⟩)) (.agg #[.slice A n c, .slice B m d])) w = .ok () ((w.setCell ⟨g, 0, none⟩ (.slice A n c)).setCell ⟨g, 1, none⟩ (.slice B m d)) := by
  obtain ⟨d0, d1, f0, f1⟩ := row2 h
  go_simp
theorem build_sto {w : World} {A B : Option Addr} {n c m d : Nat} : Sem.run Try.prog (Instr.build 25 #[(0, .slice A n c), (1, .slice B m d)]) w = .ok (.agg #[.slice A n c, .slice B m d]) w := by go_simp
section
variable {ops : Array Oper} {Q : Exit → Act → World → Prop} {a : Act} {w w0 : World} {who : Nat → Nat} {i B r ro : Nat} {o : Oper}
/-- 'T{k, t}' out of two rows. -/
theorem rol_agg (ho : ops[i]? = some o) (hw : Region.wanted o (yielded ops a.tmps) = true) {s : Nat} (hd : o.dst = some s) (hs : s < a.tmps.size) {p q : Nat} (hop : o.op = .build 25 #[(0, .tmp p), (1, .tmp q)]) {N n m : Nat} {K : List Nd} {T : List (List UInt8)} (hn : n = K.length) (hm : m = T.length)
    (h1 : (RLeaf.mem p (rowG N 27 2 n (ndsC K))).holds r a w who) (h2 : (RLeaf.mem q (rowG N 9 1 m (strC T))).holds r a w who) (hb : Below B w0 w) : wpOp Try.prog ops Q i (RPost ops i r ro (.mems s (stoG N K T)) B w0 a w who) a w := by
  subst hn hm
  obtain ⟨x, ob, hx, hob, hrx, rfl⟩ := h1
  obtain ⟨y, ob', hy, hob', hry, rfl⟩ := h2
  obtain ⟨A, c, rfl, -⟩ := ndsO hrx
  obtain ⟨A', d, rfl, -⟩ := stsO hry
  refine rol_vals ho hw hd hs (ex_build hop (vs := #[(0, .slice A K.length c), (1, .slice A' T.length d)]) (by simp only [List.map_toArray, List.map_cons, List.map_nil, eval_slot hx, eval_slot hy]) build_sto) (bs := fun b => Value.ownBlock (.slice A K.length c) = some b ∨ Value.ownBlock (.slice A' T.length d) = some b) ?_ ⟨_, _, rfl, hrx, hry, fun b e => .inl e, fun b e => .inr e⟩ hb
  rintro b (e | e)
  · exact hob b e
  · exact hob' b e
/-- A store is put into a box. -/
theorem rol_box (ho : ops[i]? = some o) (hw : Region.wanted o (yielded ops a.tmps) = true) (hd : o.dst = none) {x : Operand} {t g : Nat} (hop : o.op = .store 25 x (.tmp t)) (hx : a.eval x = .pointer (some ⟨g, 0, none⟩)) {N : Nat} {K : List Nd} {T : List (List UInt8)} {r2 : Nat} (h : (RLeaf.mems t (stoG N K T)).holds r2 a w who)
    {x0 y0 : Value} {ty : TypeId} (hg : (RLeaf.box g (.cells #[x0, y0] ty)).holds r a w who) (hb : Below B w0 w) (hB : B ≤ g) : wpOp Try.prog ops Q i (RPost ops i r r (.mem t (boxG g ty)) B w0 a w who) a w := by
  obtain ⟨v, bs, hv, -, hp⟩ := h
  obtain ⟨A, c, A', d, rfl, -, -⟩ := hp.own.forms
  exact rol_putbox ho hw hd hv rfl hg hB (ex_store hop hx (eval_slot hv) (store_sto hg.1)) hb
end
end Go.Proofs.Ytceefoiffkgliaa
