/- What regions by lanes and roles, and laws on memory, have in common. -/
import Derived.Test.YtdefphacdcbljaaGreatOctW
import Derived.Maps.AppendAt
namespace Go.Proofs.YtdefphacdcbljaaGreat
open Go.RowKit
set_option maxRecDepth 100000

theorem cell_alloc {w : World} {p : Addr} {v : Value} (h : w.cell? p = some v) (o : Obj) : (w.alloc o).cell? p = some v := cell_keep h ((Below.refl _ _).alloc (Nat.le_refl _) o)
theorem cell_new {X : World} {cs : Array Value} {t : TypeId} {i n : Nat} {v : Value} (hn : n = X.heap.size) (hv : cs[i]? = some v) : (X.alloc (.cells cs t)).cell? ⟨n, i, none⟩ = some v := by
  subst hn; rw [World.cell?_alloc_new]; exact hv
theorem cell_drew {w : World} {p : Addr} {v : Value} (h : w.cell? p = some v) : w.drew.cell? p = some v := h
theorem addr_add (b off j : Nat) : (⟨b, off, none⟩ : Addr).add j = ⟨b, off + j, none⟩ := by unfold Addr.add; split <;> simp_all
theorem row_keepB {w w' : World} {g : Nat} {o : Obj} (h : w.heap[g]? = some o) (hb : Below w.heap.size w w') : w'.heap[g]? = some o :=
  (hb.block _ (Array.getElem?_eq_some_iff.1 h).1).trans h
theorem ownsRow_belowB {w w' : World} {base : Nat} {e : TypeId} {size : Nat} {v : Value} {n : Nat} {xs : List Value} (h : w.ownsRow base e size v n xs) (hb : Below w.heap.size w w') : w'.ownsRow base e size v n xs := by
  obtain ⟨h1, h2⟩ := h
  refine ⟨h1, h2.imp id ?_⟩
  rintro ⟨g, cap, cur, hv, hg, hh, h3⟩
  exact ⟨g, cap, cur, hv, hg, (hb.block g (Array.getElem?_eq_some_iff.1 hh).1).trans hh, h3⟩
theorem row_base {w : World} {base base' : Nat} {e : TypeId} {size : Nat} {v : Value} {n : Nat} {xs : List Value} (h : w.ownsRow base e size v n xs) (hb : base' ≤ base) : w.ownsRow base' e size v n xs := by
  obtain ⟨h1, h2⟩ := h
  refine ⟨h1, h2.imp id ?_⟩
  rintro ⟨b, cap, cur, hv, hg, h3⟩
  exact ⟨b, cap, cur, hv, Nat.le_trans hb hg, h3⟩
/-! ### Lanes -/
theorem put_other {a : Act} {dst : Option Nat} {v : Value} {s : Nat} (h : dst ≠ some s) : (a.put dst v).tmps[s]? = a.tmps[s]? := by
  cases dst with
  | none => rfl
  | some d => simp only [Act.put]; exact Array.getElem?_setIfInBounds_ne (fun e => h (by rw [e]))
theorem put_self {a : Act} {d : Nat} (v : Value) (h : d < a.tmps.size) : (a.put (some d) v).tmps[d]? = some v := by
  simp only [Act.put]; exact Array.getElem?_setIfInBounds_self_of_lt h
/-- What no operation of the region turns. -/
structure Lane (a0 : Act) (S : List Nat) (B N : Nat) (w0 : World) (a : Act) (w : World) : Prop where
  defers : a.defers = []
  size : a.tmps.size = a0.tmps.size
  slots : ∀ s, s ∉ S → a.tmps[s]? = a0.tmps[s]?
  below : Below B w0 w
  new : N ≤ w.heap.size
theorem Lane.put {a0 : Act} {S : List Nat} {B N : Nat} {w0 w w' : World} {a : Act} (h : Lane a0 S B N w0 a w) {dst : Option Nat} (v : Value) (hd : ∀ d, dst = some d → d ∈ S) (hb : Below B w0 w') (hn : w.heap.size ≤ w'.heap.size) : Lane a0 S B N w0 (a.put dst v) w' := by
  refine ⟨?_, ?_, fun s hs => ?_, hb, Nat.le_trans h.new hn⟩
  · cases dst <;> exact h.defers
  · cases dst with
    | none => exact h.size
    | some d => simp only [Act.put, Array.size_setIfInBounds]; exact h.size
  · rw [put_other (fun e => hs (hd s e))]; exact h.slots s hs
theorem lane_start {a : Act} (hd : a.defers = []) (S : List Nat) {B : Nat} {w0 w : World} (hb : Below B w0 w) : Lane a S B w.heap.size w0 a w.drew := ⟨hd, rfl, fun _ _ => rfl, hb.drew, Nat.le_refl _⟩
/-- The frame, its slots of the region unknown. -/
theorem Lane.frame {a0 : Act} {S : List Nat} {B N : Nat} {w0 w : World} {a : Act} (h : Lane a0 S B N w0 a w) : a = { tmps := S.foldl (fun t s => t.setIfInBounds s (a.tmps.getD s undef)) a0.tmps, defers := [] } := by
  have key : ∀ (S : List Nat) (t : Array Value), t.size = a.tmps.size → (∀ s, s ∉ S → a.tmps[s]? = t[s]?) → a.tmps = S.foldl (fun t s => t.setIfInBounds s (a.tmps.getD s undef)) t := by
    intro S
    induction S with
    | nil =>
      intro t hs ht
      apply Array.ext_getElem?
      intro i; exact ht i (by simp)
    | cons x S ih =>
      intro t hs ht
      rw [List.foldl_cons]
      refine ih _ (by rw [Array.size_setIfInBounds]; exact hs) fun s hsS => ?_
      by_cases hx : x = s
      · subst hx
        by_cases hlt : x < t.size
        · rw [Array.getElem?_setIfInBounds_self_of_lt hlt, Array.getD_eq_getD_getElem?]
          rw [Array.getElem?_eq_getElem (by omega)]; rfl
        · rw [Array.getElem?_eq_none (by omega), Array.getElem?_eq_none (by rw [Array.size_setIfInBounds]; omega)]
      · rw [Array.getElem?_setIfInBounds_ne hx]
        exact ht s (by simp [hsS, Ne.symm hx])
  have h1 := key S a0.tmps h.size.symm h.slots
  have h2 := h.defers
  cases a
  simp only at h1 h2
  rw [← h1, h2]
def dstOf (ops : Array Oper) (i : Nat) : Option Nat := (ops[i]?).bind (·.dst)
theorem eval_slot {a : Act} {s : Nat} {v : Value} (h : a.tmps[s]? = some v) : a.eval (.tmp s) = v := by
  simp only [Act.eval, Array.getD_eq_getD_getElem?, h, Option.getD_some]
section
variable {P : Program} {ops : Array Oper} {Q : Exit → Act → World → Prop} {K : Act → World → Prop} {a : Act} {w : World} {i : Nat} {o : Oper}
theorem lane_wp (ho : ops[i]? = some o) (hg : o.guard = none) (h : o.wp P a w K Q) : wpOp P ops Q i K a w := by
  unfold wpOp
  simp only [ho]
  rw [if_pos (by simp [Region.wanted, hg])]
  exact Or.inl h
theorem lane_move (ho : ops[i]? = some o) (hg : o.guard = none) {s : Nat} {v : Value} (hop : o.op = .move (.tmp s) ∨ o.op = .assign (.tmp s)) (hs : a.tmps[s]? = some v) (h : K (a.put o.dst v) w) : wpOp P ops Q i K a w := by
  refine lane_wp ho hg ?_
  have he := eval_slot hs
  unfold Oper.wp
  rcases hop with hop | hop
  all_goals
    simp only [execOp, hop, Sem.run_pure, he]
    exact h
theorem lane_call (ho : ops[i]? = some o) (hg : o.guard = none) {f s : Nat} {ts : Array TypeId} {v : Value} (hop : o.op = .call { callee := .value (.func f), args := #[.tmp s], argTypes := ts }) (hs : a.tmps[s]? = some v)
    (hef : ∀ args w, (callFunc f args).run P w = .ok (.enter f args) w) {R : Ending → World → Prop} (hc : Calls P f #[v] w R) (h : ∀ e w', R e w' → ∃ r, e = .returned r ∧ K (a.put o.dst r) w') : wpOp P ops Q i K a w := by
  refine lane_wp ho hg ?_
  have he := eval_slot hs
  unfold Oper.wp
  have hr : Sem.run P (execOp a.eval o) w = .ok (.enter f #[v]) w := by
    have := hef #[v] w
    simp only [execOp, hop]
    simp [resolve, invoke, Act.eval, Deferred.ofValue, hs, this]
  rw [hr, Oper.upon_enter]
  refine hc.mono ?_
  intro e w' hR
  obtain ⟨r, rfl, hk⟩ := h e w' hR
  exact hk
end
theorem row_keptB {w w' : World} {base : Nat} {e : TypeId} {size : Nat} {v : Value} {n : Nat} {xs : List Value} {row : Option Nat} (h : w.ownsRow base e size v n xs) (hg : w.grownBy w' row) (hne : ∀ b, v.ownBlock = some b → row ≠ some b) : w'.ownsRow base e size v n xs := by
  obtain ⟨h1, h2⟩ := h
  refine ⟨h1, h2.imp id ?_⟩
  rintro ⟨g, cap, cur, rfl, hb, hh, h3⟩
  exact ⟨g, cap, cur, rfl, hb, (hg.block g (Array.getElem?_eq_some_iff.1 hh).1 (fun e => hne g rfl e.symm)).trans hh, h3⟩
theorem grown_cell {w w' : World} {row : Option Nat} (hg : w.grownBy w' row) {p : Addr} {v : Value} (h : w.cell? p = some v) (hne : row ≠ some p.block) : w'.cell? p = some v := by
  have hlt := World.block_lt_of_cell? w _ h
  have := hg.block p.block hlt hne.symm
  unfold World.cell? at h ⊢
  rw [this]; exact h
theorem own_lt {w : World} {base : Nat} {e : TypeId} {size : Nat} {v : Value} {n : Nat} {xs : List Value} (h : w.ownsRow base e size v n xs) {b : Nat} (hb : v.ownBlock = some b) : base ≤ b ∧ b < w.heap.size := h.lt b hb
theorem cells_newl (W : World) (xs : List Value) (t : TypeId) : ∀ (j : Nat) (u : Value), xs[j]? = some u → (W.alloc (.cells xs.toArray t)).cell? ((⟨W.heap.size, 0, none⟩ : Addr).add j) = some u := by
  intro j u hj
  rw [addr_add]
  have hh : (W.alloc (.cells xs.toArray t)).heap[W.heap.size]? = some (.cells xs.toArray t) := heap_alloc_new _ _
  unfold World.cell?
  rw [hh]
  simpa using hj
theorem row1 {w : World} {g : Nat} {x : Value} {t : TypeId} (h : w.heap[g]? = some (.cells #[x] t (0, 0))) : w.cell? ⟨g, 0, none⟩ = some x ∧ w.frozen? ⟨g, 0, none⟩ = false := by
  simp [World.cell?, World.frozen?, h]
theorem row1_set {w : World} {g : Nat} {x : Value} {t : TypeId} (h : w.heap[g]? = some (.cells #[x] t (0, 0))) (y : Value) : (w.setCell ⟨g, 0, none⟩ y).heap[g]? = some (.cells #[y] t (0, 0)) := by
  simp [World.setCell, Array.getElem?_modify, h]
theorem row_far1 {w : World} {base : Nat} {e : TypeId} {size : Nat} {v : Value} {n : Nat} {xs : List Value} (h : w.ownsRow base e size v n xs) {g i : Nat} (hg : g < base) (y : Value) : (w.setCell ⟨g, i, none⟩ y).ownsRow base e size v n xs := by
  obtain ⟨h1, h2⟩ := h
  refine ⟨h1, h2.imp id ?_⟩
  rintro ⟨k, cap, cur, rfl, hb, hh, h3⟩
  exact ⟨k, cap, cur, rfl, hb, (Below.heap_setCell w ⟨g, i, none⟩ y k (by simp only; omega)).trans hh, h3⟩
section
variable {P : Program}
theorem results_tct {fn : Func} {p q r : Tmp} {ty : TypeId} (h : fn.results = #[.tmp p, .cell q ty, .tmp r]) (tmps : Array Value) (w : World) (g : Nat) (t : TypeId) (cs : Array Value) (fr : Nat × Nat) (d : TypeDesc)
    (hp : tmps.getD q undef = .pointer (some ⟨g, 0, none⟩)) (hg : w.heap[g]? = some (.cells cs t fr))
    (hu : P.underlying ty = some d) (hd : (match d with | .struct _ | .array _ _ => true | _ => false) = true) (hi : (P.info? ty).map (·.size) = some cs.size) :
    (results fn tmps).run P w = .ok (.tuple #[tmps.getD p undef, .agg cs, tmps.getD r undef]) w := by
  have hp' : tmps[q]?.getD undef = .pointer (some ⟨g, 0, none⟩) := by simpa using hp
  simp [results, h, hp', asAddr, run_loadVar_row w g t ty cs fr d hg hu hd hi]
theorem results_tc {fn : Func} {p q : Tmp} {ty : TypeId} (h : fn.results = #[.tmp p, .cell q ty]) (tmps : Array Value) (w : World) (g : Nat) (t : TypeId) (cs : Array Value) (fr : Nat × Nat) (d : TypeDesc)
    (hp : tmps.getD q undef = .pointer (some ⟨g, 0, none⟩)) (hg : w.heap[g]? = some (.cells cs t fr))
    (hu : P.underlying ty = some d) (hd : (match d with | .struct _ | .array _ _ => true | _ => false) = true) (hi : (P.info? ty).map (·.size) = some cs.size) :
    (results fn tmps).run P w = .ok (.tuple #[tmps.getD p undef, .agg cs]) w := by
  have hp' : tmps[q]?.getD undef = .pointer (some ⟨g, 0, none⟩) := by simpa using hp
  simp [results, h, hp', asAddr, run_loadVar_row w g t ty cs fr d hg hu hd hi]
end
/-- A parameter's own cell, just laid; the world named. -/
theorem boxM (w : World) (x : Value) (t : TypeId) : ∃ W g, w.alloc (.cells #[x] t) = W ∧ w.heap.size = g ∧ W.cell? ⟨g, 0, none⟩ = some x ∧ Below w.heap.size w W :=
  ⟨_, _, rfl, rfl, cell_new rfl rfl, (Below.refl _ _).alloc (Nat.le_refl _) _⟩
theorem row2 {w : World} {g : Nat} {x0 x1 : Value} {t : TypeId} (h : w.heap[g]? = some (.cells #[x0, x1] t (0, 0))) :
    w.cell? ⟨g, 0, none⟩ = some x0 ∧ w.cell? ⟨g, 1, none⟩ = some x1 ∧ w.frozen? ⟨g, 0, none⟩ = false ∧ w.frozen? ⟨g, 1, none⟩ = false := by
  simp [World.cell?, World.frozen?, h]
theorem row2_set {w : World} {g : Nat} {x0 x1 : Value} {t : TypeId} (h : w.heap[g]? = some (.cells #[x0, x1] t (0, 0))) (y0 y1 : Value) :
    ((w.setCell ⟨g, 0, none⟩ y0).setCell ⟨g, 1, none⟩ y1).heap[g]? = some (.cells #[y0, y1] t (0, 0)) := by
  simp [World.setCell, Array.getElem?_modify, h]
end Go.Proofs.YtdefphacdcbljaaGreat
