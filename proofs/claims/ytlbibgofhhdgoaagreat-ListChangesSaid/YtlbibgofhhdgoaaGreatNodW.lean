/- What the first region of a law leaves: facts, and what keeps them. -/
import Derived.Test.YtlbibgofhhdgoaaGreatRolL
import Derived.Test.YtlbibgofhhdgoaaGreatOctW
import Derived.Test.YtlbibgofhhdgoaaGreatNodN
namespace Go.Proofs.YtlbibgofhhdgoaaGreat
open Go.RowKit
set_option maxRecDepth 100000

/-- What an operation leaves: a value in a slot; a list of nodes of the call's own; what box c holds. The boxes are the blocks B, B + 1, ..; what comes later is at N or behind. -/
inductive Fact where
  | slot (s : Nat) (v : Value)
  | row (s : Nat) (l : List Nd)
  | cells (c : Nat) (n : Nd)
  | any
def Fact.holds (k : Fact) (B N : Nat) (a : Act) (w : World) : Prop := match k with
  | .slot s v => a.tmps[s]? = some v
  | .row s l => ∃ v, a.tmps[s]? = some v ∧ w.ownsRow N 55 2 v l.length (ndsC l)
  | .cells c n => w.heap[B + c]? = some (.cells #[.string (mkB n.1), .string (mkB n.2)] 55 (0, 0))
  | .any => True
/-- Is a fact of no such slot, and of no such box? -/
def Fact.off (k : Fact) (dst : Option Nat) (c : Option Nat) : Bool := match k with
  | .slot s _ => dst != some s
  | .row s _ => dst != some s
  | .cells c' _ => c != some c'
  | .any => true
/-- But for one box, what was there is there. -/
structure Step1 (B N : Nat) (c : Option Nat) (w w' : World) : Prop where
  size : w.heap.size ≤ w'.heap.size
  block : ∀ k, k < w.heap.size → c.map (B + ·) ≠ some k → w'.heap[k]? = w.heap[k]?
  lt : ∀ x, c = some x → B + x < N
theorem Step1.same (w : World) (B N : Nat) : Step1 B N none w w := ⟨Nat.le_refl _, fun _ _ _ => rfl, fun _ h => by cases h⟩
theorem Step1.two (w : World) {B N c : Nat} (hc : B + c < N) (x y : Value) : Step1 B N (some c) w ((w.setCell ⟨B + c, 0, none⟩ x).setCell ⟨B + c, 1, none⟩ y) :=
  ⟨by simp [World.setCell], fun k _ hk => by
    have hne : B + c ≠ k := fun e => hk (by rw [← e]; rfl)
    simp [World.setCell, Array.getElem?_modify, hne], fun x h => by cases h; exact hc⟩
theorem Fact.keep {k : Fact} {B N : Nat} {a : Act} {w w' : World} {dst : Option Nat} {v : Value} {c : Option Nat} (ho : k.off dst c = true) (hw : Step1 B N c w w') (h : k.holds B N a w) : k.holds B N (a.put dst v) w' := by
  cases k with
  | slot s u =>
    have hd : dst ≠ some s := by simpa [Fact.off] using ho
    simp only [Fact.holds] at h ⊢; rw [put_other hd]; exact h
  | row s l =>
    have hd : dst ≠ some s := by simpa [Fact.off] using ho
    obtain ⟨u, hu, hr⟩ := h
    refine ⟨u, by rw [put_other hd]; exact hu, ?_⟩
    obtain ⟨h1, h2⟩ := hr
    refine ⟨h1, h2.imp id ?_⟩
    rintro ⟨b, cap, cur, hv, hb, hh, h3⟩
    refine ⟨b, cap, cur, hv, hb, (hw.block b (Array.getElem?_eq_some_iff.1 hh).1 fun e => ?_).trans hh, h3⟩
    cases c with
    | none => cases e
    | some x => have := hw.lt x rfl; have e2 : B + x = b := Option.some.inj e; omega
  | cells c' n =>
    have hd : c ≠ some c' := by simpa [Fact.off] using ho
    simp only [Fact.holds] at h ⊢
    refine (hw.block _ (Array.getElem?_eq_some_iff.1 h).1 fun e => ?_).trans h
    cases c with
    | none => cases e
    | some x => have e2 : B + x = B + c' := Option.some.inj e; exact hd (by congr 1; omega)
  | any => trivial

/-! ### The operations -/
section
variable {P : Program} {ops : Array Oper} {Q : Exit → Act → World → Prop} {K : Act → World → Prop} {a : Act} {w : World} {i : Nat} {o : Oper}
end
/-! ### The boxes of a law's parameters -/
section
variable {ops : Array Oper} {Q : Exit → Act → World → Prop} {K : Act → World → Prop} {a : Act} {w : World} {i : Nat} {o : Oper}
end
end Go.Proofs.YtlbibgofhhdgoaaGreat
