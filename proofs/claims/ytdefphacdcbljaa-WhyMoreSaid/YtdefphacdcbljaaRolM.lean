/- Rows of the call's own, and blocks that a region lays, as facts of its operations. -/
import Derived.Test.YtdefphacdcbljaaRolB
import Derived.Test.YtdefphacdcbljaaNodY
namespace Go.Proofs.Ytdefphacdcbljaa
open Go.RowKit
set_option linter.unusedVariables false
set_option maxRecDepth 100000

/-- A row of the call's own, among the blocks from N on. -/
def rowG (N : Nat) (e : TypeId) (size n : Nat) (xs : List Value) : World → Value → Option Nat → Prop := fun w v ob => w.ownsRow N e size v n xs ∧ ob = v.ownBlock
theorem row_heap {w w' : World} {base : Nat} {e : TypeId} {size : Nat} {v : Value} {n : Nat} {xs : List Value} (h : w.ownsRow base e size v n xs) (hb : ∀ b, v.ownBlock = some b → w'.heap[b]? = w.heap[b]?) : w'.ownsRow base e size v n xs := by
  obtain ⟨h1, h2⟩ := h
  refine ⟨h1, h2.imp id ?_⟩
  rintro ⟨g, cap, cur, rfl, hg, hh, h3⟩
  exact ⟨g, cap, cur, rfl, hg, (hb g rfl).trans hh, h3⟩
theorem rowG_near {N : Nat} {e : TypeId} {size n : Nat} {xs : List Value} : ∀ (w w' : World) (v : Value) (ob : Option Nat), (∀ b, ob = some b → w'.heap[b]? = w.heap[b]?) → rowG N e size n xs w v ob → rowG N e size n xs w' v ob := by
  rintro w w' v ob hb ⟨h, rfl⟩
  exact ⟨row_heap h hb, rfl⟩
/-- A slice of a whole block of its own. -/
def blkG (t : TypeId) (cs : Array Value) (k : Nat) : World → Value → Option Nat → Prop := fun w u ob => ∃ b, u = .slice (some ⟨b, 0, none⟩) k k ∧ ob = some b ∧ w.heap[b]? = some (.cells cs t (0, 0))
theorem blkG_near {t : TypeId} {cs : Array Value} {k : Nat} : ∀ (w w' : World) (u : Value) (ob : Option Nat), (∀ b, ob = some b → w'.heap[b]? = w.heap[b]?) → blkG t cs k w u ob → blkG t cs k w' u ob := by
  rintro w w' u ob hb ⟨b, rfl, rfl, h⟩
  exact ⟨b, rfl, rfl, (hb b rfl).trans h⟩
/-- A row of the call's own, whatever slot it is told of. -/
def rowX (X : Value) (N : Nat) (e : TypeId) (size n : Nat) (xs : List Value) : World → Value → Option Nat → Prop := fun w _ ob => w.ownsRow N e size X n xs ∧ ob = X.ownBlock
theorem rowX_near {X : Value} {N : Nat} {e : TypeId} {size n : Nat} {xs : List Value} : ∀ (w w' : World) (v : Value) (ob : Option Nat), (∀ b, ob = some b → w'.heap[b]? = w.heap[b]?) → rowX X N e size n xs w v ob → rowX X N e size n xs w' v ob := by
  rintro w w' v ob hb ⟨h, rfl⟩
  exact ⟨row_heap h hb, rfl⟩
/-- Rows of different elements lie in different blocks. -/
theorem own_apart {w : World} {N N' : Nat} {e e' : TypeId} {s s' n n' : Nat} {x y : Value} {xs ys : List Value} (h : w.ownsRow N e s x n xs) (h' : w.ownsRow N' e' s' y n' ys) (hne : e ≠ e') : ∀ b, x.ownBlock = some b → y.ownBlock ≠ some b := by
  intro b hb hb'
  rcases h.2 with ⟨rfl, _⟩ | ⟨g, cap, cur, rfl, _, hg, _⟩
  · cases hb
  · rcases h'.2 with ⟨rfl, _⟩ | ⟨g', cap', cur', rfl, _, hg', _⟩
    · cases hb'
    · have e1 : g = b := Option.some.inj hb
      have e2 : g' = b := Option.some.inj hb'
      subst e1 e2
      rw [hg] at hg'
      injection hg' with hg'
      injection hg' with _ hg'
      exact hne hg'
/-- A row lies not where a box does, of another type. -/
theorem own_nebox {w : World} {N g : Nat} {e t : TypeId} {s n : Nat} {x : Value} {xs : List Value} {cs : Array Value} (h : w.ownsRow N e s x n xs) (hg : w.heap[g]? = some (.cells cs t (0, 0))) (hne : e ≠ t) : x.ownBlock ≠ some g := by
  intro hb
  rcases h.2 with ⟨rfl, _⟩ | ⟨b, cap, cur, rfl, _, hh, _⟩
  · cases hb
  · have e1 : b = g := Option.some.inj hb
    subst e1
    rw [hg] at hh
    injection hh with hh
    injection hh with _ hh
    exact hne hh.symm
theorem idx_nds {w : World} {b off n c k : Nat} (h : k < n) : (Instr.indexAt 27 (.slice (some ⟨b, off, none⟩) n c) (.int .i64 (k : Int))).run Try.prog w = .ok (.pointer (some ⟨b, off + k * 2, none⟩)) w := by
  have h1 : (0 : Int) ≤ (k : Int) := by omega
  have h3 : (k : Int) < (n : Int) := by omega
  go_simp
theorem ld_node {w : World} {g i : Nat} {p v : List UInt8} (h : w.cell? ⟨g, i, none⟩ = some (.string (mkB p))) (h' : w.cell? ⟨g, i + 1, none⟩ = some (.string (mkB v))) : Sem.run Try.prog (Instr.loadAt 24 (.pointer (some ⟨g, i, none⟩))) w = .ok (.agg #[.string (mkB p), .string (mkB v)]) w := by
  go_simp
section
variable {P : Program} {ops : Array Oper} {a : Act} {w : World} {o : Oper}
theorem ex_back {t : TypeId} {x y : Operand} {vx vy v : Value} (hop : o.op = .slice t x (some y) none none) (hx : a.eval x = vx) (hy : a.eval y = vy) (hr : Sem.run P (Instr.sliceAt t vx (some vy) none none) w = .ok v w) : Sem.run P (execOp a.eval o) w = .ok (.value v) w := by
  simp only [execOp, hop, Option.map, hx, hy]
  simp [hr]
end
end Go.Proofs.Ytdefphacdcbljaa
