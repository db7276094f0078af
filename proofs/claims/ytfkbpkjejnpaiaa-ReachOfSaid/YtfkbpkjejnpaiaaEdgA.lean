/- Edges in memory: slices of them, rows of the call's own, what comes in; two edges' sameness. -/
import Derived.Test.YtfkbpkjejnpaiaaEdgM
import Derived.Test.YtfkbpkjejnpaiaaRolB
import Derived.Laws.StructEq
import Derived.Deep.SlicePairs
import Derived.Deep.QuietTactic
import Derived.BigQuiet
namespace Go.Proofs.Ytfkbpkjejnpaiaa
open Go.RowKit Go.ChangeShapes Go.WideShapes
set_option maxRecDepth 100000

/-- A slice of edges, in memory: nil, empty, or cells that hold them, three each. -/
structure Eds (w : World) (v : Value) (es : List Ed) : Prop where
  ex : ∃ a c, v = .slice a es.length c ∧ es.length ≤ c ∧ c ≤ maxLen ∧ (a = none → c = 0) ∧ (0 < es.length → ∃ b off, a = some ⟨b, off, none⟩ ∧ b < w.heap.size ∧ ∀ j, j < es.length →
    w.cell? ⟨b, off + j * 3, none⟩ = some (.int .i64 (es.getD j zE).1) ∧ w.cell? ⟨b, off + j * 3 + 1, none⟩ = some (.int .i64 (es.getD j zE).2.1) ∧ w.cell? ⟨b, off + j * 3 + 2, none⟩ = some (.int .i64 (es.getD j zE).2.2))
theorem Eds.below {w w' : World} {v : Value} {zs : List Ed} (h : Eds w v zs) (hb : Below w.heap.size w w') : Eds w' v zs := by
  obtain ⟨a, c, hv, h1, h2, hn, h3⟩ := h.ex
  refine ⟨a, c, hv, h1, h2, hn, fun hp => ?_⟩
  obtain ⟨b, off, ha, hlt, hc⟩ := h3 hp
  exact ⟨b, off, ha, Nat.lt_of_lt_of_le hlt hb.size, fun j hj => by rw [hb.cell (by exact hlt), hb.cell (by exact hlt), hb.cell (by exact hlt)]; exact hc j hj⟩
theorem Eds.at {w : World} {a : Option Addr} {n c : Nat} {es : List Ed} (h : Eds w (.slice a n c) es) (k : Nat) (hk : k < es.length) :
    ∃ b off, a = some ⟨b, off, none⟩ ∧ b < w.heap.size ∧ w.cell? ⟨b, off + k * 3, none⟩ = some (.int .i64 (es.getD k zE).1) ∧ w.cell? ⟨b, off + k * 3 + 1, none⟩ = some (.int .i64 (es.getD k zE).2.1) ∧ w.cell? ⟨b, off + k * 3 + 2, none⟩ = some (.int .i64 (es.getD k zE).2.2) := by
  obtain ⟨a', c', hv, _, _, _, h3⟩ := h.ex
  injection hv with e1 e2 e3
  subst e1
  obtain ⟨b, off, ha, hlt, hc⟩ := h3 (by omega)
  exact ⟨b, off, ha, hlt, hc k hk⟩
theorem eds_none (w : World) : Eds w (.slice none 0 0) [] := ⟨none, 0, rfl, Nat.le_refl _, by unfold maxLen; omega, fun _ => rfl, fun h => absurd h (by simp)⟩
theorem Eds.nil {w : World} {n c : Nat} {l : List Ed} {a : Option Addr} (h : Eds w (.slice a n c) l) (ha : a = none) : n = 0 ∧ c = 0 := by
  obtain ⟨a', c', hv, h1, h2, h3, -⟩ := h.ex
  injection hv with e1 e2 e3
  subst e1 e2 e3
  have := h3 ha
  omega
/-- The first ones. -/
theorem Eds.cut {w : World} {a : Option Addr} {n c : Nat} {l : List Ed} (h : Eds w (.slice a n c) l) (k : Nat) (hk : k ≤ n) : Eds w (.slice a k c) (l.take k) := by
  obtain ⟨a', c', hv, h1, h2, hn, h3⟩ := h.ex
  injection hv with e1 e2 e3
  subst e1 e2 e3
  have e : (l.take k).length = k := by simp; omega
  refine ⟨a, c, by rw [e], by omega, h2, hn, fun hp => ?_⟩
  rw [e] at hp ⊢
  obtain ⟨b, off, ha, hlt, hc⟩ := h3 (by omega)
  refine ⟨b, off, ha, hlt, fun j hj => ?_⟩
  have hg : (l.take k).getD j zE = l.getD j zE := by simp only [List.getD_eq_getElem?_getD, List.getElem?_take, if_pos hj]
  rw [hg]
  exact hc j (by omega)

/-! ### Edges as cells -/
abbrev edV (e : Ed) : Value := .agg #[.int .i64 e.1, .int .i64 e.2.1, .int .i64 e.2.2]
abbrev edC1 (e : Ed) : List Value := [.int .i64 e.1, .int .i64 e.2.1, .int .i64 e.2.2]
def edC (es : List Ed) : List Value := es.flatMap edC1
theorem edC_len (es : List Ed) : (edC es).length = es.length * 3 := by
  induction es with
  | nil => rfl
  | cons x l ih => simp only [edC, List.flatMap_cons, List.length_append, List.length_cons, List.length_nil] at ih ⊢; omega
theorem edC_snoc (es : List Ed) (x : Ed) : edC (es ++ [x]) = edC es ++ edC1 x := by simp [edC]
theorem edC_app (l m : List Ed) : edC (l ++ m) = edC l ++ edC m := by simp [edC]
theorem edC_one (l : List Ed) : ((edC l).all fun u => u.oneCell') = true := by
  induction l with
  | nil => rfl
  | cons x l ih =>
    have e : edC (x :: l) = .int .i64 x.1 :: .int .i64 x.2.1 :: .int .i64 x.2.2 :: edC l := rfl
    rw [e, List.all_cons, List.all_cons, List.all_cons, ih]; rfl
theorem edC_at (es : List Ed) : ∀ j, j < es.length → (edC es)[j * 3]? = some (.int .i64 (es.getD j zE).1) ∧ (edC es)[j * 3 + 1]? = some (.int .i64 (es.getD j zE).2.1) ∧ (edC es)[j * 3 + 2]? = some (.int .i64 (es.getD j zE).2.2) := by
  induction es with
  | nil => intro j hj; exact absurd hj (Nat.not_lt_zero j)
  | cons x l ih =>
    intro j hj
    have e : edC (x :: l) = .int .i64 x.1 :: .int .i64 x.2.1 :: .int .i64 x.2.2 :: edC l := rfl
    rw [e]
    cases j with
    | zero => exact ⟨rfl, rfl, rfl⟩
    | succ j =>
      have := ih j (by simpa using hj)
      rw [show (j + 1) * 3 = j * 3 + 1 + 1 + 1 by omega, show j * 3 + 1 + 1 + 1 + 1 = (j * 3 + 1) + 1 + 1 + 1 by omega, show j * 3 + 1 + 1 + 1 + 2 = (j * 3 + 2) + 1 + 1 + 1 by omega]
      simpa using this
theorem Try.info_edge : (Try.prog.info? 43).map (fun i => (i.zero, i.size, i.bytes)) = some (some (.agg #[.int .i64 0, .int .i64 0, .int .i64 0]), 3, 24) := by kernel_rfl
theorem Eds.owned {w : World} {base : Nat} {e : TypeId} {v : Value} {es : List Ed} (h : w.ownsRow base e 3 v es.length (edC es)) : Eds w v es := by
  rcases Joins.ownsRow_forms h with ⟨rfl, h0⟩ | ⟨g, cap, rfl⟩
  · have : es = [] := List.eq_nil_of_length_eq_zero h0
    subst this
    exact eds_none w
  · have hlt := h.lt g rfl
    have hcap : es.length ≤ cap ∧ cap ≤ maxLen := by
      obtain ⟨_, h | ⟨g', cap', cur, hv, _, _, h1, h2, _⟩⟩ := h
      · cases h.1
      · injection hv with _ _ hc; subst hc; exact ⟨h1, h2⟩
    refine ⟨some ⟨g, 0, none⟩, cap, rfl, hcap.1, hcap.2, (fun h => by cases h), fun _ => ⟨g, 0, rfl, hlt.2, fun j hj => ?_⟩⟩
    have := edC_at es j hj
    rw [Nat.zero_add, h.cellAt (j * 3) (by omega), h.cellAt (j * 3 + 1) (by omega), h.cellAt (j * 3 + 2) (by omega)]
    exact this
theorem edsO {w : World} {base : Nat} {e : TypeId} {v : Value} {es : List Ed} (h : w.ownsRow base e 3 v es.length (edC es)) : ∃ a c, v = .slice a es.length c ∧ Eds w (.slice a es.length c) es := by
  have hst := Eds.owned h
  obtain ⟨a, c, rfl, _⟩ := hst.ex
  exact ⟨a, c, rfl, hst⟩
theorem Eds.cells {w : World} {ad : Addr} {n c : Nat} {l : List Ed} (h : Eds w (.slice (some ad) n c) l) : ∀ j u, (edC l)[j]? = some u → w.cell? (ad.add j) = some u := by
  intro j u hj
  have hlt : j < (edC l).length := (List.getElem?_eq_some_iff.1 hj).1
  rw [edC_len] at hlt
  obtain ⟨k, hk⟩ : ∃ k, j = k * 3 ∨ j = k * 3 + 1 ∨ j = k * 3 + 2 := ⟨j / 3, by omega⟩
  have hkl : k < l.length := by omega
  obtain ⟨b, off, ha, -, c0, c1, c2⟩ := h.at k hkl
  obtain ⟨d0, d1, d2⟩ := edC_at l k hkl
  cases ha
  rw [addr_add]
  rcases hk with rfl | rfl | rfl
  · rw [d0] at hj; cases hj; exact c0
  · rw [d1] at hj; cases hj; exact c1
  · rw [d2] at hj; cases hj; exact c2
theorem row3 {w : World} {g : Nat} {x0 x1 x2 : Value} {t : TypeId} (h : w.heap[g]? = some (.cells #[x0, x1, x2] t (0, 0))) :
    w.cell? ⟨g, 0, none⟩ = some x0 ∧ w.cell? ⟨g, 1, none⟩ = some x1 ∧ w.cell? ⟨g, 2, none⟩ = some x2 ∧ w.frozen? ⟨g, 0, none⟩ = false ∧ w.frozen? ⟨g, 1, none⟩ = false ∧ w.frozen? ⟨g, 2, none⟩ = false := by
  simp [World.cell?, World.frozen?, h]
/-- A parameter's own cells, just laid; the world named. -/
theorem boxE1 (w : World) (x y z : Value) (t : TypeId) : ∃ W p, w.alloc (.cells #[x, y, z] t) = W ∧ w.heap.size = p ∧ W.cell? ⟨p, 0, none⟩ = some x ∧ W.cell? ⟨p, 1, none⟩ = some y ∧ W.cell? ⟨p, 2, none⟩ = some z ∧ Below w.heap.size w W :=
  ⟨_, _, rfl, rfl, cell_new rfl rfl, cell_new rfl rfl, cell_new rfl rfl, (Below.refl _ _).alloc (Nat.le_refl _) _⟩
theorem boxE2 (w : World) (x y z x' y' z' : Value) (t : TypeId) : ∃ W p q, (w.alloc (.cells #[x, y, z] t)).alloc (.cells #[x', y', z'] t) = W ∧ w.heap.size = p ∧ w.heap.size + 1 = q ∧ W.cell? ⟨p, 0, none⟩ = some x ∧ W.cell? ⟨p, 1, none⟩ = some y ∧ W.cell? ⟨p, 2, none⟩ = some z ∧ W.cell? ⟨q, 0, none⟩ = some x' ∧ W.cell? ⟨q, 1, none⟩ = some y' ∧ W.cell? ⟨q, 2, none⟩ = some z' ∧ Below w.heap.size w W :=
  ⟨_, _, _, rfl, rfl, rfl, cell_alloc (cell_new rfl rfl) _, cell_alloc (cell_new rfl rfl) _, cell_alloc (cell_new rfl rfl) _, cell_new (by simp) rfl, cell_new (by simp) rfl, cell_new (by simp) rfl, ((Below.refl _ _).alloc (Nat.le_refl _) _).alloc (by simp) _⟩

/-! ### Two edges' sameness -/
theorem edge_fields : Try.prog.underlying 43 = some (.struct (Try.prog.fieldsOf 43)) := by kernel_rfl
theorem edge_held : Try.prog.stoodInHeld 43 = false := by kernel_rfl
theorem int_eq (d : Nat) (a b : Int) (w : World) : Sem.run Try.prog (Op.equalIn (d + 1) 3 (.int .i64 a) (.int .i64 b)) w = .ok (a == b) w := by
  unfold Op.equalIn
  simp
theorem eqin_ed (x y z x' y' z' : Int) (w : World) : Sem.run Try.prog (Op.equalIn 10000 43 (.agg #[.int .i64 x, .int .i64 y, .int .i64 z]) (.agg #[.int .i64 x', .int .i64 y', .int .i64 z'])) w = .ok (decide ((x, y, z) = (x', y', z'))) w := by
  have hs := fun a b w => int_eq 9998 a b w
  have ha : ∀ w, Sem.run Try.prog (isAgg 3) w = .ok false w := by intro w; kernel_rfl
  have hz : ∀ w, Sem.run Try.prog (sizeOf 3) w = .ok 1 w := by intro w; kernel_rfl
  rw [show (10000 : Nat) = 9999 + 1 from rfl, run_equalIn_agg w 9999 43 _ _ edge_fields edge_held]
  simp only [Program.fieldsOf, Try.underlying43]
  go_simp
  by_cases h1 : x = x' <;> by_cases h2 : y = y' <;> by_cases h3 : z = z' <;> simp [h1, h2, h3]
theorem neq_ed (x y z x' y' z' : Int) (w : World) : Sem.run Try.prog (binOp .neq 43 (.agg #[.int .i64 x, .int .i64 y, .int .i64 z]) (.agg #[.int .i64 x', .int .i64 y', .int .i64 z'])) w = .ok (.bool (!decide ((x, y, z) = (x', y', z')))) w := by
  rw [run_neq_struct, eqin_ed]; rfl
theorem guard_ed (op : BinOp) (a b : Operand) (xs ys : Array Value) (w : World) : Sem.run Try.prog (eqGuard op 43 a b (.agg xs) (.agg ys)) w = .ok () w := run_eqGuard_agg w op _ a b xs ys (by kernel_rfl)

/-! ### What comes in -/
def fitI (z : Int) : Prop := -9223372036854775808 ≤ z ∧ z ≤ 9223372036854775807
def fitE (e : Ed) : Prop := fitI e.1 ∧ fitI e.2.1 ∧ fitI e.2.2
section
variable {H : Type} {enc : TypeId × Value → H} {w : World} {base : Nat} {spare : Nat → Bool} {held : Bool}
theorem eds_of {a : Addr} {len cap m : Nat} {E : Nat → Ed} (hl : len ≤ cap) (hm : cap ≤ maxLen) (hlm : len ≤ m) (hx : ∀ i, i < m → w.cell? (a.add (i * 3)) = some (.int .i64 (E i).1) ∧ w.cell? (a.add (i * 3 + 1)) = some (.int .i64 (E i).2.1) ∧ w.cell? (a.add (i * 3 + 2)) = some (.int .i64 (E i).2.2) ∧ fitE (E i)) :
    ∃ l, Eds w (.slice (some a) len cap) l ∧ ∀ e ∈ l, fitE e := by
  refine ⟨(List.range len).map E, ?_, fun e he => ?_⟩
  · have e : ((List.range len).map E).length = len := by simp
    refine ⟨some a, cap, by rw [e], by rw [e]; exact hl, hm, (fun h => by cases h), fun hp => ?_⟩
    rw [e] at hp ⊢
    obtain ⟨b, off, spot⟩ := a
    have h0 := (hx 0 (by omega)).1
    have hspot : spot = none := by simpa [Addr.add] using World.cell?_spot h0
    subst hspot
    refine ⟨b, off, rfl, ?_, fun j hj => ?_⟩
    · have := World.block_lt_of_cell? w _ h0
      simpa [Addr.add] using this
    · obtain ⟨h1, h2, h3, _⟩ := hx j (by omega)
      have hd : ((List.range len).map E).getD j zE = E j := by simp [List.getD_eq_getElem?_getD, hj]
      rw [addr_add] at h1 h2 h3
      rw [← Nat.add_assoc] at h2 h3
      rw [hd, h1, h2, h3]
      exact ⟨rfl, rfl, rfl⟩
  · obtain ⟨i, hi, rfl⟩ := List.mem_map.1 he
    exact (hx i (by have := List.mem_range.1 hi; omega)).2.2.2
theorem fit_wf {z : Int} (h : (Lit.int .i64 z).wf = true) : fitI z := by
  have h1 : (decide (IntKind.i64.min ≤ z) && decide (z ≤ IntKind.i64.max)) = true := h
  rw [Bool.and_eq_true, decide_eq_true_eq, decide_eq_true_eq] at h1
  exact h1
theorem eds_open {fuel : Nat} {a : Option Addr} {len cap : Nat} {x : DataW H × List MemPlace} (h : DataW.trod enc Try.prog w base spare held fuel 22 [.slice a len cap] = some x) :
    ∃ l, Eds w (.slice a len cap) l ∧ ∀ e ∈ l, fitE e := by
  rcases Go.Deep.open_slice Try.underlying22 h with ⟨hcs, _⟩ | ⟨ad, l, c, m, n, D, Pl, hcs, hb, hl, hm, hmm, -, hx⟩
  · simp only [List.cons.injEq, Value.slice.injEq, and_true] at hcs
    obtain ⟨rfl, rfl, rfl⟩ := hcs
    exact ⟨[], eds_none w, fun l hl => by cases hl⟩
  · simp only [List.cons.injEq, Value.slice.injEq, and_true] at hcs
    obtain ⟨rfl, rfl, rfl⟩ := hcs
    have ce : Try.prog.cellsOf 43 = 3 := by kernel_rfl
    have ci : Try.prog.cellsOf 3 = 1 := by kernel_rfl
    have each : ∀ i, i < m → ∃ e : Ed, w.cell? (ad.add (i * 3)) = some (.int .i64 e.1) ∧ w.cell? (ad.add (i * 3 + 1)) = some (.int .i64 e.2.1) ∧ w.cell? (ad.add (i * 3 + 2)) = some (.int .i64 e.2.2) ∧ fitE e := by
      intro i hi
      obtain ⟨cs', h1, h2⟩ := hx i hi
      rw [ce] at h1
      obtain ⟨_, hlen, hcell⟩ := World.cells?_some h1
      obtain ⟨xs, k, hk, hxy, _, hxl, hf⟩ := DataW.trod_struct Try.underlying43 h2
      match xs, hxl, cs', hlen with
      | [y0, y1, y2], _, [v0, v1, v2], _ =>
        have g0 := hf 0 _ rfl
        have g1 := hf 1 _ rfl
        have g2 := hf 2 _ rfl
        simp [ci] at g0 g1 g2
        obtain ⟨z0, q0, -, f0⟩ := DataW.trod_int Try.underlying3 g0
        obtain ⟨z1, q1, -, f1⟩ := DataW.trod_int Try.underlying3 g1
        obtain ⟨z2, q2, -, f2⟩ := DataW.trod_int Try.underlying3 g2
        simp only [List.cons.injEq, and_true] at q0 q1 q2
        subst q0 q1 q2
        have e0 := hcell 0 (by omega)
        have e1 := hcell 1 (by omega)
        have e2 := hcell 2 (by omega)
        rw [Go.Deep.add_add] at e0 e1 e2
        exact ⟨(z0, z1, z2), by simpa using e0, by simpa using e1, by simpa using e2, fit_wf f0, fit_wf f1, fit_wf f2⟩
    obtain ⟨E, hE⟩ := Go.Deep.choose_lt each
    exact eds_of (m := m) (E := E) hl hm (by rw [hmm]; split <;> omega) hE
end
end Go.Proofs.Ytfkbpkjejnpaiaa
