/- What the first region of a law leaves: facts, and what keeps them. -/
import Derived.Test.YtdefphacdcbljaaRolL
import Derived.Test.YtdefphacdcbljaaOctW
import Derived.Test.YtdefphacdcbljaaNodN
namespace Go.Proofs.Ytdefphacdcbljaa
open Go.RowKit
set_option maxRecDepth 100000

/-- What an operation leaves: a value in a slot; a list of nodes of the call's own; what box c holds. The boxes are the blocks B, B + 1, ..; what comes later is at N or behind. -/
inductive Fact where
  | slot (s : Nat) (v : Value)
  | row (s : Nat) (l : List Nd)
  | cells (c : Nat) (n : Nd)
  | any
def Fact.holds (k : Fact) (B N : Nat) (a : Act) (w : World) : Prop := match k with
  | .slot s v => a.tmps[s]? = some v
  | .row s l => ∃ v, a.tmps[s]? = some v ∧ w.ownsRow N 24 2 v l.length (ndsC l)
  | .cells c n => w.heap[B + c]? = some (.cells #[.string (mkB n.1), .string (mkB n.2)] 24 (0, 0))
  | .any => True
/-- Is a fact of no such slot, and of no such box? -/
def Fact.off (k : Fact) (dst : Option Nat) (c : Option Nat) : Bool := match k with
  | .slot s _ => dst != some s
  | .row s _ => dst != some s
  | .cells c' _ => c != some c'
  | .any => true
/-- But for one box, what was there is there. -/
structure Step1 (B N : Nat) (c : Option Nat) (w w' : World) : Prop where
  size : w.heap.size ≤ w'.heap.size
  block : ∀ k, k < w.heap.size → c.map (B + ·) ≠ some k → w'.heap[k]? = w.heap[k]?
  lt : ∀ x, c = some x → B + x < N
theorem Step1.of_below {w w' : World} (h : Below w.heap.size w w') (B N : Nat) : Step1 B N none w w' := ⟨h.size, fun k hk _ => h.block k hk, fun _ h => by cases h⟩
theorem Step1.same (w : World) (B N : Nat) : Step1 B N none w w := ⟨Nat.le_refl _, fun _ _ _ => rfl, fun _ h => by cases h⟩
theorem Step1.two (w : World) {B N c : Nat} (hc : B + c < N) (x y : Value) : Step1 B N (some c) w ((w.setCell ⟨B + c, 0, none⟩ x).setCell ⟨B + c, 1, none⟩ y) :=
  ⟨by simp [World.setCell], fun k _ hk => by
    have hne : B + c ≠ k := fun e => hk (by rw [← e]; rfl)
    simp [World.setCell, Array.getElem?_modify, hne], fun x h => by cases h; exact hc⟩
theorem Fact.keep {k : Fact} {B N : Nat} {a : Act} {w w' : World} {dst : Option Nat} {v : Value} {c : Option Nat} (ho : k.off dst c = true) (hw : Step1 B N c w w') (h : k.holds B N a w) : k.holds B N (a.put dst v) w' := by
  cases k with
  | slot s u =>
    have hd : dst ≠ some s := by simpa [Fact.off] using ho
    simp only [Fact.holds] at h ⊢; rw [put_other hd]; exact h
  | row s l =>
    have hd : dst ≠ some s := by simpa [Fact.off] using ho
    obtain ⟨u, hu, hr⟩ := h
    refine ⟨u, by rw [put_other hd]; exact hu, ?_⟩
    obtain ⟨h1, h2⟩ := hr
    refine ⟨h1, h2.imp id ?_⟩
    rintro ⟨b, cap, cur, hv, hb, hh, h3⟩
    refine ⟨b, cap, cur, hv, hb, (hw.block b (Array.getElem?_eq_some_iff.1 hh).1 fun e => ?_).trans hh, h3⟩
    cases c with
    | none => cases e
    | some x => have := hw.lt x rfl; have e2 : B + x = b := Option.some.inj e; omega
  | cells c' n =>
    have hd : c ≠ some c' := by simpa [Fact.off] using ho
    simp only [Fact.holds] at h ⊢
    refine (hw.block _ (Array.getElem?_eq_some_iff.1 h).1 fun e => ?_).trans h
    cases c with
    | none => cases e
    | some x => have e2 : B + x = B + c' := Option.some.inj e; exact hd (by congr 1; omega)
  | any => trivial

/-- Each fact is of what no other operation touches. -/
def laneOff (ops : Array Oper) (S : List Nat) (boxes : List (Option Nat)) (FF EE : List Fact) : Bool :=
  (List.range ops.size).all fun i => ((dstOf ops i).all fun d => S.contains d) && (List.range ops.size).all fun j => j == i || ((FF.getD j .any).off (dstOf ops i) (boxes.getD i none) && (EE.getD j .any).off (dstOf ops i) (boxes.getD i none))
theorem lane_run {P : Program} {ops : Array Oper} {Q : Exit → Act → World → Prop} {id : Nat} {a0 : Act} {w0 w : World} (hm : P.follows .mixedOrders = true) (deps : List (List Nat)) (hg : laneGood ops deps = true)
    (S : List Nat) (boxes : List (Option Nat)) (FF EE : List Fact) (hoff : laneOff ops S boxes FF EE = true) (B N : Nat) (hd : a0.defers = []) (hb : Below B w0 w) (hN : N = w.heap.size)
    (hE0 : ∀ j, j < ops.size → (EE.getD j .any).holds B N a0 w)
    (hstep : ∀ i, i < ops.size → ∀ a w, Lane a0 S B N w0 a w → (∀ d ∈ deps.getD i [], (FF.getD d .any).holds B N a w) → (∀ k, k < ops.size → k = i ∨ i ∈ deps.getD k [] → (EE.getD k .any).holds B N a w) →
      wpOp P ops Q i (fun a' w' => (∃ v, a' = a.put (dstOf ops i) v) ∧ Below B w0 w' ∧ Step1 B N (boxes.getD i none) w w' ∧ (FF.getD i .any).holds B N a' w') a w)
    (hend : ∀ a w, Lane a0 S B N w0 a w → (∀ j, j < ops.size → (FF.getD j .any).holds B N a w) → Q .normal a w) : (Code.region id ops true).wp P Q a0 w := by
  subst hN
  refine wp_region_lane hm deps hg (Lane a0 S B w.heap.size w0) (fun j => (FF.getD j .any).holds B w.heap.size) (fun j => (EE.getD j .any).holds B w.heap.size) (lane_start hd S hb) (fun j hj => ?_) (fun i hi a w' hG hF hE => ?_) hend
  · have h := hE0 j hj
    cases hk : EE.getD j .any <;> rw [hk] at h <;> exact h
  · refine wpOp_mono ?_ (hstep i hi a w' hG hF hE)
    rintro a' w2 ⟨⟨v, rfl⟩, hb2, hs2, hF2⟩
    unfold laneOff at hoff
    have h1 := List.all_eq_true.1 hoff i (List.mem_range.2 hi)
    rw [Bool.and_eq_true] at h1
    refine ⟨hG.put v (fun d e => ?_) hb2 hs2.size, hF2, fun j hj hne => ?_⟩
    · have h2 := h1.1
      rw [e] at h2
      simpa using h2
    · have h2 := List.all_eq_true.1 h1.2 j (List.mem_range.2 hj)
      rw [Bool.or_eq_true, Bool.and_eq_true] at h2
      rcases h2 with h2 | ⟨h2, h3⟩
      · exact absurd (by simpa using h2) hne
      · exact ⟨Fact.keep h2 hs2, Fact.keep h3 hs2⟩

/-! ### The operations -/
section
variable {P : Program} {ops : Array Oper} {Q : Exit → Act → World → Prop} {K : Act → World → Prop} {a : Act} {w : World} {i : Nat} {o : Oper}
end
/-! ### The boxes of a law's parameters -/
abbrev cellsN (n : Nd) : Obj := .cells #[.string (mkB n.1), .string (mkB n.2)] 24
theorem boxes1 (w : World) (n : Nd) : ∃ W, w.alloc (cellsN n) = W ∧ W.heap.size = w.heap.size + 1 ∧ W.heap[w.heap.size]? = some (cellsN n) ∧ Below w.heap.size w W :=
  ⟨_, rfl, by simp, heap_alloc_new _ _, (Below.refl _ _).alloc (Nat.le_refl _) _⟩
theorem boxes2 (w : World) (n m : Nd) : ∃ W, (w.alloc (cellsN n)).alloc (cellsN m) = W ∧ W.heap.size = w.heap.size + 2 ∧ W.heap[w.heap.size]? = some (cellsN n) ∧ W.heap[w.heap.size + 1]? = some (cellsN m) ∧ Below w.heap.size w W :=
  ⟨_, rfl, by simp, by rw [Below.heap_alloc _ _ _ (by simp)]; exact heap_alloc_new _ _, by have := heap_alloc_new (w.alloc (cellsN n)) (cellsN m); simpa using this, ((Below.refl _ _).alloc (Nat.le_refl _) _).alloc (by simp) _⟩
theorem boxes3 (w : World) (n m k : Nd) : ∃ W, ((w.alloc (cellsN n)).alloc (cellsN m)).alloc (cellsN k) = W ∧ W.heap.size = w.heap.size + 3 ∧ W.heap[w.heap.size]? = some (cellsN n) ∧ W.heap[w.heap.size + 1]? = some (cellsN m) ∧ W.heap[w.heap.size + 2]? = some (cellsN k) ∧ Below w.heap.size w W :=
  ⟨_, rfl, by simp, by rw [Below.heap_alloc _ _ _ (by simp; omega), Below.heap_alloc _ _ _ (by simp)]; exact heap_alloc_new _ _, by rw [Below.heap_alloc _ _ _ (by simp)]; have := heap_alloc_new (w.alloc (cellsN n)) (cellsN m); simpa using this, by have := heap_alloc_new ((w.alloc (cellsN n)).alloc (cellsN m)) (cellsN k); simpa using this, (((Below.refl _ _).alloc (Nat.le_refl _) _).alloc (by simp) _).alloc (by simp; omega) _⟩
theorem load_nd (g : Nat) (x y : Value) (w : World) (h : w.heap[g]? = some (.cells #[x, y] 24 (0, 0))) : Sem.run Try.prog (Instr.loadAt 24 (.pointer (some ⟨g, 0, none⟩))) w = .ok (.agg #[x, y]) w := by
  obtain ⟨c0, c1, f0, f1⟩ := row2 h
  go_simp
theorem store_nd (g : Nat) (x y : Value) (x' y' : ByteArray) (w : World) (h : w.heap[g]? = some (.cells #[x, y] 24 (0, 0))) : Sem.run Try.prog (Instr.storeAt 24 (.pointer (some ⟨g, 0, none⟩)) (.agg #[.string x', .string y'])) w = .ok () ((w.setCell ⟨g, 0, none⟩ (.string x')).setCell ⟨g, 1, none⟩ (.string y')) := by
  obtain ⟨c0, c1, f0, f1⟩ := row2 h
  go_simp
section
variable {ops : Array Oper} {Q : Exit → Act → World → Prop} {K : Act → World → Prop} {a : Act} {w : World} {i : Nat} {o : Oper}
theorem lane_load (ho : ops[i]? = some o) (hg : o.guard = none) {s g : Nat} {x y : Value} (hop : o.op = .load 24 (.tmp s)) (hs : a.tmps[s]? = some (.pointer (some ⟨g, 0, none⟩))) (hh : w.heap[g]? = some (.cells #[x, y] 24 (0, 0)))
    (h : K (a.put o.dst (.agg #[x, y])) w) : wpOp Try.prog ops Q i K a w := by
  refine lane_wp ho hg ?_
  have he := eval_slot hs
  unfold Oper.wp
  have hr : Sem.run Try.prog (execOp a.eval o) w = .ok (.value (.agg #[x, y])) w := by
    have := load_nd g x y w hh
    simp only [execOp, hop, he]
    simp [this]
  rw [hr, Oper.upon_value]
  exact h
theorem lane_store (ho : ops[i]? = some o) (hg : o.guard = none) {s t g : Nat} {x y : Value} {x' y' : ByteArray} (hop : o.op = .store 24 (.tmp s) (.tmp t)) (hs : a.tmps[s]? = some (.pointer (some ⟨g, 0, none⟩))) (ht : a.tmps[t]? = some (.agg #[.string x', .string y'])) (hh : w.heap[g]? = some (.cells #[x, y] 24 (0, 0)))
    (h : K (a.put o.dst undef) ((w.setCell ⟨g, 0, none⟩ (.string x')).setCell ⟨g, 1, none⟩ (.string y'))) : wpOp Try.prog ops Q i K a w := by
  refine lane_wp ho hg ?_
  have he := eval_slot hs
  have he2 := eval_slot ht
  unfold Oper.wp
  have hr : Sem.run Try.prog (execOp a.eval o) w = .ok .skip ((w.setCell ⟨g, 0, none⟩ (.string x')).setCell ⟨g, 1, none⟩ (.string y')) := by
    have := store_nd g x y x' y' w hh
    simp only [execOp, hop, he, he2]
    simp [this]
  rw [hr, Oper.upon_skip]
  exact h
end
end Go.Proofs.Ytdefphacdcbljaa
